/-
  The mathematics of the reference's Both: between two neighbouring points membership is constant; the list that is built is canonical.
-/
import Derived.Test.YtplphinaeikpmaaGreatDoorRefC
namespace Go.Proofs.YtplphinaeikpmaaGreatDoor
open Spans

theorem con_const (L : List Sp) (x y : Int) (h0 : 0 ≤ x) (hy : y ≤ 1048577) (h : ∀ s ∈ L, ∀ e, e = s.1 ∨ e = s.2 → ¬ (x < e ∧ e < y)) (d : Int) (hd : x ≤ d) (hd2 : d < y) : conB L d = conB L x := by
  have hm : ∀ (L : List Sp), (∀ s ∈ L, ∀ e, e = s.1 ∨ e = s.2 → ¬ (x < e ∧ e < y)) → memB L d = memB L x := by
    intro L
    induction L with
    | nil => intro _; rfl
    | cons s r ih =>
      intro h
      rw [memB, memB, ih (fun t ht => h t (List.mem_cons_of_mem _ ht))]
      congr 1
      have e1 := h s (List.mem_cons_self ..) s.1 (Or.inl rfl)
      have e2 := h s (List.mem_cons_self ..) s.2 (Or.inr rfl)
      rw [Bool.eq_iff_iff, decide_eq_true_eq, decide_eq_true_eq]
      omega
  unfold conB
  rw [hm L h, decide_eq_true (show 0 ≤ d ∧ d ≤ 1048576 by omega), decide_eq_true (show 0 ≤ x ∧ x ≤ 1048576 by omega)]

/-- Where the stretch of the k-th point ends. -/
def nx (zs : List Int) (k : Nat) : Int := if k + 1 < zs.length then el zs (k + 1) else 1048577
def bd (zs : List Int) (k : Nat) : Int := if k < zs.length then el zs k else 1048577
theorem nx_bd (zs : List Int) (k : Nat) : nx zs k = bd zs (k + 1) := rfl
theorem el_lt {zs : List Int} (h : zs.Pairwise (· < ·)) {i j : Nat} (hij : i < j) (hj : j < zs.length) : el zs i < el zs j := by
  have := List.pairwise_iff_getElem.1 h i j (by omega) hj hij
  unfold el
  simpa [List.getD, List.getElem?_eq_getElem hj, List.getElem?_eq_getElem (Nat.lt_trans hij hj)] using this
theorem el_in {zs : List Int} {k : Nat} (hk : k < zs.length) : el zs k ∈ zs := by
  unfold el
  rw [List.getD, List.getElem?_eq_getElem hk]
  exact List.getElem_mem hk
theorem in_el {zs : List Int} {x : Int} (h : x ∈ zs) : ∃ k, k < zs.length ∧ el zs k = x := by
  obtain ⟨k, hk, e⟩ := List.getElem_of_mem h
  exact ⟨k, hk, by unfold el; rw [List.getD, List.getElem?_eq_getElem hk]; exact e⟩
theorem pt_range {zs : List Int} (h : PtsOk zs) {k : Nat} (hk : k < zs.length) : 0 ≤ el zs k ∧ el zs k < nx zs k ∧ nx zs k ≤ 1048577 := by
  obtain ⟨_, h2, h3⟩ := h
  have r1 := h3 _ (el_in hk)
  unfold nx
  by_cases c : k + 1 < zs.length
  · rw [if_pos c]
    have r2 := h3 _ (el_in c)
    have := el_lt h2 (show k < k + 1 by omega) c
    omega
  · rw [if_neg c]
    omega
theorem pt_gap (L : List Sp) (k : Nat) (hk : k < (pts L).length) : ∀ s ∈ L, ∀ e, e = s.1 ∨ e = s.2 → ¬ (el (pts L) k < e ∧ e < nx (pts L) k) := by
  rintro s hs e he ⟨g1, g2⟩
  have hok := pts_ok L
  obtain ⟨r1, r2, r3⟩ := pt_range hok hk
  obtain ⟨j, hj, ej⟩ := in_el (pts_mem L hs he (by omega) (by omega))
  rcases Nat.lt_or_ge k j with h | h
  · have : nx (pts L) k ≤ e := by
      unfold nx
      rw [if_pos (by omega)]
      rcases Nat.lt_or_ge (k + 1) j with h' | h'
      · have := el_lt hok.2.1 h' hj
        omega
      · obtain rfl : j = k + 1 := by omega
        omega
    omega
  · rcases Nat.lt_or_ge j k with h' | h'
    · have := el_lt hok.2.1 h' hk
      omega
    · obtain rfl : j = k := by omega
      omega
/-- The membership of an operation's result is constant between two points. -/
theorem op_const (h : Int) (La Lb : List Sp) (k : Nat) (hk : k < (pts (La ++ Lb)).length) (d : Int) (h0 : el (pts (La ++ Lb)) k ≤ d) (h1 : d < nx (pts (La ++ Lb)) k) :
    opB h (conB La d) (conB Lb d) = opB h (conB La (el (pts (La ++ Lb)) k)) (conB Lb (el (pts (La ++ Lb)) k)) := by
  obtain ⟨r1, r2, r3⟩ := pt_range (pts_ok (La ++ Lb)) hk
  have g := pt_gap (La ++ Lb) k hk
  rw [con_const La _ _ r1 r3 (fun s hs => g s (List.mem_append_left _ hs)) d h0 h1, con_const Lb _ _ r1 r3 (fun s hs => g s (List.mem_append_right _ hs)) d h0 h1]

/-- What is built of the first k points. -/
def bothL (P : Int → Bool) (zs : List Int) : Nat → List Sp
  | 0 => []
  | k + 1 => if P (el zs k) = true then apS (bothL P zs k) (el zs k, nx zs k) else bothL P zs k
/-- The last span ends no later than a number. -/
def EndLe (L : List Sp) (b : Int) : Prop := ∀ x, L.getLast? = some x → x.2 ≤ b
theorem apS_end (L : List Sp) (s : Sp) (h : EndLe L s.1) (hs : s.1 < s.2) : EndLe (apS L s) s.2 := by
  rcases List.eq_nil_or_concat L with rfl | ⟨K, x, rfl⟩
  · intro y hy
    rw [apS_nil] at hy
    simp at hy
    subst hy
    exact Int.le_refl _
  · have hx : x.2 ≤ s.1 := h x (by simp)
    rw [List.concat_eq_append, apS_snoc]
    split
    · intro y hy; simp at hy; subst hy; exact Int.le_refl _
    · intro y hy; simp at hy; subst hy; simp only; omega
theorem both_inv (P : Int → Bool) (zs : List Int) (hz : PtsOk zs) (hc : ∀ k, k < zs.length → ∀ d, el zs k ≤ d → d < nx zs k → P d = P (el zs k)) : ∀ k, k ≤ zs.length →
    SepL (-1) (bothL P zs k) ∧ EndLe (bothL P zs k) (bd zs k) ∧ (∀ d, 0 ≤ d → d ≤ 1048576 → memB (bothL P zs k) d = (decide (d < bd zs k) && P d)) ∧ (bothL P zs k).length ≤ k
  | 0, _ => by
    refine ⟨trivial, fun x hx => by simp [bothL] at hx, fun d h0 h1 => ?_, by simp [bothL]⟩
    obtain ⟨⟨r, rfl⟩, _, _⟩ := hz
    have e : bd (0 :: r) 0 = 0 := by unfold bd; rw [if_pos (by simp)]; rfl
    rw [e, decide_eq_false (by omega)]
    rfl
  | k + 1, hk => by
    obtain ⟨i1, i2, i3, i4⟩ := both_inv P zs hz hc k (by omega)
    have hkl : k < zs.length := by omega
    obtain ⟨r1, r2, r3⟩ := pt_range hz hkl
    have eb : bd zs k = el zs k := by unfold bd; rw [if_pos hkl]
    rw [eb] at i2 i3
    rw [← nx_bd, bothL]
    by_cases hp : P (el zs k) = true
    · rw [if_pos hp]
      have hl : LastLe (bothL P zs k) (el zs k) := by
        intro x hx
        have h2 := i2 x hx
        rcases List.eq_nil_or_concat (bothL P zs k) with h | ⟨K, y, h⟩
        · rw [h] at hx; simp at hx
        · rw [h, List.concat_eq_append] at hx i1
          simp at hx
          subst hx
          have := (sep_end K (-1) y i1).1
          omega
      obtain ⟨a1, a2, a3⟩ := apS_ok (bothL P zs k) (el zs k, nx zs k) i1 hl r1 r2 r3
      refine ⟨a1, apS_end _ _ i2 r2, fun d h0 h1 => ?_, by have := apS_len (bothL P zs k) (el zs k, nx zs k); omega⟩
      rw [a2, i3 d h0 h1]
      by_cases c1 : d < el zs k
      · rw [decide_eq_true c1, decide_eq_true (show d < nx zs k by omega)]
        have : memB [(el zs k, nx zs k)] d = false := by simp [memB]; omega
        rw [this, Bool.or_false]
      · by_cases c2 : d < nx zs k
        · rw [decide_eq_false c1, decide_eq_true c2, hc k hkl d (by omega) c2, hp]
          simp [memB]; omega
        · rw [decide_eq_false c1, decide_eq_false c2]
          simp [memB]; omega
    · rw [if_neg hp]
      refine ⟨i1, fun x hx => by have := i2 x hx; omega, fun d h0 h1 => ?_, by omega⟩
      rw [i3 d h0 h1]
      by_cases c1 : d < el zs k
      · rw [decide_eq_true c1, decide_eq_true (show d < nx zs k by omega)]
      · by_cases c2 : d < nx zs k
        · have hpf : P (el zs k) = false := by simpa using hp
          rw [decide_eq_false c1, decide_eq_true c2, hc k hkl d (by omega) c2, hpf]
          rfl
        · rw [decide_eq_false c1, decide_eq_false c2]
/-- The membership of an operation's result. -/
def opP (h : Int) (La Lb : List Sp) (d : Int) : Bool := opB h (conB La d) (conB Lb d)
theorem both_is (h : Int) (La Lb : List Sp) : Is (bothL (opP h La Lb) (pts (La ++ Lb)) (pts (La ++ Lb)).length) (opP h La Lb) := by
  obtain ⟨i1, _, i3, _⟩ := both_inv (opP h La Lb) (pts (La ++ Lb)) (pts_ok _) (fun k hk d h0 h1 => op_const h La Lb k hk d h0 h1) _ (Nat.le_refl _)
  refine ⟨i1, fun d h0 h1 => ?_⟩
  rw [i3 d h0 h1]
  have e : bd (pts (La ++ Lb)) (pts (La ++ Lb)).length = 1048577 := by unfold bd; rw [if_neg (by omega)]
  rw [e, decide_eq_true (by omega), Bool.true_and]
end Go.Proofs.YtplphinaeikpmaaGreatDoor
