/-
  Sets of days: the mathematics of the reference's sets (of no program).
-/
import Derived.Test.YtmgjpmjmondplaaSpans
namespace Go.Proofs.Ytmgjpmjmondplaa.Rm
open Spans
def fr (L : List Sp) (k : Nat) : Int := (L.getD k (0, 0)).1
def tu (L : List Sp) (k : Nat) : Int := (L.getD k (0, 0)).2
theorem drop_step (L : List Sp) (k : Nat) (hk : k < L.length) : L.drop k = (fr L k, tu L k) :: L.drop (k + 1) := by
 rw [List.drop_eq_getElem_cons hk]
 congr 1
 unfold fr tu
 rw [List.getD, List.getElem?_eq_getElem hk]
 rfl
def sepB : Int → List Sp → Bool
 | _, [] => true
 | lo, s :: r => decide (lo < s.1) && (decide (s.1 < s.2) && (decide (s.2 ≤ 1048577) && sepB s.2 r))
theorem sepB_iff : ∀ (L : List Sp) (lo : Int), sepB lo L = true ↔ SepL lo L
 | [], _ => by simp [sepB, SepL]
 | s :: r, lo => by simp [sepB, SepL, sepB_iff r s.2]
theorem memB_iff : ∀ (L : List Sp) (d : Int), memB L d = true ↔ ∃ s ∈ L, s.1 ≤ d ∧ d < s.2
 | [], d => by simp [memB]
 | s :: r, d => by
   rw [memB, Bool.or_eq_true, memB_iff r d, decide_eq_true_eq]
   constructor
   · rintro (h | ⟨x, hx, h⟩)
     · exact ⟨s, by simp, h⟩
     · exact ⟨x, by simp [hx], h⟩
   · rintro ⟨x, hx, h⟩
     rcases List.mem_cons.1 hx with rfl | hx
     · exact Or.inl h
     · exact Or.inr ⟨x, hx, h⟩
theorem take_step (L : List Sp) (k : Nat) (hk : k < L.length) : L.take (k + 1) = L.take k ++ [(fr L k, tu L k)] := by
 rw [List.take_succ_eq_append_getElem hk]
 congr 2
 unfold fr tu
 rw [List.getD, List.getElem?_eq_getElem hk]
 rfl
theorem el_mem (P : List Sp) (k : Nat) (hk : k < P.length) : (fr P k, tu P k) ∈ P := by
 unfold fr tu
 rw [List.getD, List.getElem?_eq_getElem hk]
 exact List.getElem_mem hk
theorem apS_len (L : List Sp) (s : Sp) : (apS L s).length ≤ L.length + 1 := by
 rcases List.eq_nil_or_concat L with rfl | ⟨K, x, rfl⟩
 · simp [apS_nil]
 · rw [List.concat_eq_append, apS_snoc]
   split <;> simp
def conB (L : List Sp) (d : Int) : Bool := decide (0 ≤ d ∧ d ≤ 1048576) && memB L d
def el (zs : List Int) (k : Nat) : Int := zs.getD k 0
def opB (h : Int) (x y : Bool) : Bool := if h = 0 then x || y else if h = 1 then x && y else x && !y
def putP : List Int → Int → List Int
 | [], n => [n]
 | x :: r, n => if x < n then x :: putP r n else if x = n then x :: r else n :: x :: r
theorem putP_eq : ∀ (zs : List Int) (n : Int) (k : Nat), k ≤ zs.length → (∀ j, j < k → el zs j < n) → (k < zs.length → ¬ el zs k < n) →
   putP zs n = if k < zs.length ∧ el zs k = n then zs else zs.take k ++ n :: zs.drop k
 | [], n, k, hk, _, _ => by
   obtain rfl : k = 0 := by simpa using hk
   simp [putP]
 | x :: r, n, 0, _, _, h => by
   have h0 : ¬ x < n := h (by simp)
   have e0 : el (x :: r) 0 = x := rfl
   rw [putP, if_neg h0, e0]
   by_cases hx : x = n
   · rw [if_pos hx, if_pos ⟨by simp, hx⟩]
   · rw [if_neg hx, if_neg (by simp [hx])]
     rfl
 | x :: r, n, k + 1, hk, hj, h => by
   have h0 : x < n := hj 0 (by omega)
   have ih := putP_eq r n k (by simpa using hk) (fun j hjk => hj (j + 1) (by omega)) (fun hl => h (by simpa using hl))
   have e0 : el (x :: r) (k + 1) = el r k := rfl
   rw [putP, if_pos h0, ih, e0]
   by_cases hx : k < r.length ∧ el r k = n
   · rw [if_pos hx, if_pos ⟨by simpa using hx.1, hx.2⟩]
   · rw [if_neg hx, if_neg (fun hh => hx ⟨by simpa using hh.1, hh.2⟩)]
     rfl
theorem mem_putP : ∀ (zs : List Int) (n x : Int), x ∈ putP zs n ↔ x ∈ zs ∨ x = n
 | [], n, x => by simp [putP]
 | y :: r, n, x => by
   rw [putP]
   by_cases h1 : y < n
   · rw [if_pos h1, List.mem_cons, mem_putP r n x, List.mem_cons, or_assoc]
   · rw [if_neg h1]
     by_cases h2 : y = n
     · subst h2
       rw [if_pos rfl, List.mem_cons]
       constructor
       · exact Or.inl
       · rintro (h | h)
         · exact h
         · exact Or.inl h
     · rw [if_neg h2, List.mem_cons, or_comm]
theorem asc_putP : ∀ (zs : List Int) (n : Int), zs.Pairwise (· < ·) → (putP zs n).Pairwise (· < ·)
 | [], n, _ => by simp [putP]
 | y :: r, n, h => by
   obtain ⟨h1, h2⟩ := List.pairwise_cons.1 h
   rw [putP]
   by_cases c1 : y < n
   · rw [if_pos c1, List.pairwise_cons]
     refine ⟨fun x hx => ?_, asc_putP r n h2⟩
     rcases (mem_putP r n x).1 hx with hx | rfl
     · exact h1 x hx
     · exact c1
   · rw [if_neg c1]
     by_cases c2 : y = n
     · rw [if_pos c2]
       exact h
     · rw [if_neg c2, List.pairwise_cons]
       refine ⟨fun x hx => ?_, h⟩
       rcases List.mem_cons.1 hx with rfl | hx
       · omega
       · have := h1 x hx
         omega
theorem len_putP : ∀ (zs : List Int) (n : Int), zs.length ≤ (putP zs n).length ∧ (putP zs n).length ≤ zs.length + 1 ∧ 0 < (putP zs n).length
 | [], n => by simp [putP]
 | y :: r, n => by
   obtain ⟨h1, h2, h3⟩ := len_putP r n
   rw [putP]
   split
   · simp only [List.length_cons]; omega
   · split <;> simp only [List.length_cons] <;> omega
theorem head_putP (r : List Int) (n : Int) (h : 0 < n) : ∃ r', putP (0 :: r) n = 0 :: r' := ⟨_, by rw [putP, if_pos h]⟩
def stepP (zs : List Int) (e : Int) : List Int := if 0 < e ∧ e ≤ 1048576 then putP zs e else zs
def ptsF (zs : List Int) (s : Sp) : List Int := stepP (stepP zs s.1) s.2
def pts (L : List Sp) : List Int := L.foldl ptsF [0]
theorem pts_step (L : List Sp) (k : Nat) (hk : k < L.length) : pts (L.take (k + 1)) = stepP (stepP (pts (L.take k)) (fr L k)) (tu L k) := by
 rw [take_step L k hk]
 simp [pts, ptsF]
def PtsOk (zs : List Int) : Prop := (∃ r, zs = 0 :: r) ∧ zs.Pairwise (· < ·) ∧ ∀ x ∈ zs, 0 ≤ x ∧ x ≤ 1048576
theorem step_ok {zs : List Int} (h : PtsOk zs) (e : Int) : PtsOk (stepP zs e) ∧ (∀ x ∈ zs, x ∈ stepP zs e) ∧ (0 < e → e ≤ 1048576 → e ∈ stepP zs e) ∧ (stepP zs e).length ≤ zs.length + 1 ∧ 0 < (stepP zs e).length := by
 unfold stepP
 obtain ⟨⟨r, rfl⟩, h2, h3⟩ := h
 by_cases he : 0 < e ∧ e ≤ 1048576
 · rw [if_pos he]
   refine ⟨⟨head_putP r e he.1, asc_putP _ e h2, fun x hx => ?_⟩, fun x hx => (mem_putP _ e x).2 (Or.inl hx), fun _ _ => (mem_putP _ e e).2 (Or.inr rfl), (len_putP _ e).2.1, (len_putP _ e).2.2⟩
   rcases (mem_putP _ e x).1 hx with hx | rfl
   · exact h3 x hx
   · omega
 · rw [if_neg he]
   exact ⟨⟨⟨r, rfl⟩, h2, h3⟩, fun x hx => hx, fun h0 h1 => absurd ⟨h0, h1⟩ he, by omega, by simp⟩
theorem pts_fold : ∀ (L : List Sp) (zs : List Int), PtsOk zs → PtsOk (L.foldl ptsF zs) ∧ (∀ x ∈ zs, x ∈ L.foldl ptsF zs) ∧ (∀ s ∈ L, ∀ e, e = s.1 ∨ e = s.2 → 0 < e → e ≤ 1048576 → e ∈ L.foldl ptsF zs) ∧ (L.foldl ptsF zs).length ≤ zs.length + 2 * L.length
 | [], zs, h => ⟨h, fun _ hx => hx, fun s hs => by simp at hs, by simp⟩
 | s :: r, zs, h => by
   obtain ⟨a1, a2, a3, a4, _⟩ := step_ok h s.1
   obtain ⟨b1, b2, b3, b4, _⟩ := step_ok a1 s.2
   obtain ⟨c1, c2, c3, c4⟩ := pts_fold r (ptsF zs s) b1
   refine ⟨c1, fun x hx => c2 x (b2 x (a2 x hx)), fun t ht e he h0 h1 => ?_, ?_⟩
   · rcases List.mem_cons.1 ht with rfl | ht
     · rcases he with rfl | rfl
       · exact c2 _ (b2 _ (a3 h0 h1))
       · exact c2 _ (b3 h0 h1)
     · exact c3 t ht e he h0 h1
   · have e : (ptsF zs s).length ≤ zs.length + 2 := by unfold ptsF; omega
     simp only [List.foldl_cons, List.length_cons]
     omega
theorem pts_zero : PtsOk [0] := ⟨⟨[], rfl⟩, by simp, fun x hx => by simp at hx; omega⟩
theorem pts_len (L : List Sp) : (pts L).length ≤ 1 + 2 * L.length := (pts_fold L [0] pts_zero).2.2.2
theorem pts_ok (L : List Sp) : PtsOk (pts L) := (pts_fold L [0] pts_zero).1
theorem pts_mem (L : List Sp) {s : Sp} (hs : s ∈ L) {e : Int} (he : e = s.1 ∨ e = s.2) (h0 : 0 < e) (h1 : e ≤ 1048576) : e ∈ pts L := (pts_fold L [0] pts_zero).2.2.1 s hs e he h0 h1
theorem step_in (zs : List Int) (e : Int) (h0 : 0 < e) (h1 : e ≤ 1048576) : stepP zs e = putP zs e := by unfold stepP; rw [if_pos ⟨h0, h1⟩]
theorem step_low (zs : List Int) (e : Int) (h0 : ¬ 0 < e) : stepP zs e = zs := by unfold stepP; rw [if_neg (fun h => h0 h.1)]
theorem step_high (zs : List Int) (e : Int) (h1 : ¬ e ≤ 1048576) : stepP zs e = zs := by unfold stepP; rw [if_neg (fun h => h1 h.2)]
theorem con_const (L : List Sp) (x y : Int) (h0 : 0 ≤ x) (hy : y ≤ 1048577) (h : ∀ s ∈ L, ∀ e, e = s.1 ∨ e = s.2 → ¬ (x < e ∧ e < y)) (d : Int) (hd : x ≤ d) (hd2 : d < y) : conB L d = conB L x := by
 have hm : ∀ (L : List Sp), (∀ s ∈ L, ∀ e, e = s.1 ∨ e = s.2 → ¬ (x < e ∧ e < y)) → memB L d = memB L x := by
   intro L
   induction L with
   | nil => intro _; rfl
   | cons s r ih =>
     intro h
     rw [memB, memB, ih (fun t ht => h t (List.mem_cons_of_mem _ ht))]
     congr 1
     have e1 := h s (List.mem_cons_self ..) s.1 (Or.inl rfl)
     have e2 := h s (List.mem_cons_self ..) s.2 (Or.inr rfl)
     rw [Bool.eq_iff_iff, decide_eq_true_eq, decide_eq_true_eq]
     omega
 unfold conB
 rw [hm L h, decide_eq_true (show 0 ≤ d ∧ d ≤ 1048576 by omega), decide_eq_true (show 0 ≤ x ∧ x ≤ 1048576 by omega)]
def nx (zs : List Int) (k : Nat) : Int := if k + 1 < zs.length then el zs (k + 1) else 1048577
def bd (zs : List Int) (k : Nat) : Int := if k < zs.length then el zs k else 1048577
theorem nx_bd (zs : List Int) (k : Nat) : nx zs k = bd zs (k + 1) := rfl
theorem el_lt {zs : List Int} (h : zs.Pairwise (· < ·)) {i j : Nat} (hij : i < j) (hj : j < zs.length) : el zs i < el zs j := by
 have := List.pairwise_iff_getElem.1 h i j (by omega) hj hij
 unfold el
 simpa [List.getD, List.getElem?_eq_getElem hj, List.getElem?_eq_getElem (Nat.lt_trans hij hj)] using this
theorem el_in {zs : List Int} {k : Nat} (hk : k < zs.length) : el zs k ∈ zs := by
 unfold el
 rw [List.getD, List.getElem?_eq_getElem hk]
 exact List.getElem_mem hk
theorem in_el {zs : List Int} {x : Int} (h : x ∈ zs) : ∃ k, k < zs.length ∧ el zs k = x := by
 obtain ⟨k, hk, e⟩ := List.getElem_of_mem h
 exact ⟨k, hk, by unfold el; rw [List.getD, List.getElem?_eq_getElem hk]; exact e⟩
theorem pt_range {zs : List Int} (h : PtsOk zs) {k : Nat} (hk : k < zs.length) : 0 ≤ el zs k ∧ el zs k < nx zs k ∧ nx zs k ≤ 1048577 := by
 obtain ⟨_, h2, h3⟩ := h
 have r1 := h3 _ (el_in hk)
 unfold nx
 by_cases c : k + 1 < zs.length
 · rw [if_pos c]
   have r2 := h3 _ (el_in c)
   have := el_lt h2 (show k < k + 1 by omega) c
   omega
 · rw [if_neg c]
   omega
theorem pt_gap (L : List Sp) (k : Nat) (hk : k < (pts L).length) : ∀ s ∈ L, ∀ e, e = s.1 ∨ e = s.2 → ¬ (el (pts L) k < e ∧ e < nx (pts L) k) := by
 rintro s hs e he ⟨g1, g2⟩
 have hok := pts_ok L
 obtain ⟨r1, r2, r3⟩ := pt_range hok hk
 obtain ⟨j, hj, ej⟩ := in_el (pts_mem L hs he (by omega) (by omega))
 rcases Nat.lt_or_ge k j with h | h
 · have : nx (pts L) k ≤ e := by
     unfold nx
     rw [if_pos (by omega)]
     rcases Nat.lt_or_ge (k + 1) j with h' | h'
     · have := el_lt hok.2.1 h' hj
       omega
     · obtain rfl : j = k + 1 := by omega
       omega
   omega
 · rcases Nat.lt_or_ge j k with h' | h'
   · have := el_lt hok.2.1 h' hk
     omega
   · obtain rfl : j = k := by omega
     omega
theorem op_const (h : Int) (La Lb : List Sp) (k : Nat) (hk : k < (pts (La ++ Lb)).length) (d : Int) (h0 : el (pts (La ++ Lb)) k ≤ d) (h1 : d < nx (pts (La ++ Lb)) k) :
   opB h (conB La d) (conB Lb d) = opB h (conB La (el (pts (La ++ Lb)) k)) (conB Lb (el (pts (La ++ Lb)) k)) := by
 obtain ⟨r1, r2, r3⟩ := pt_range (pts_ok (La ++ Lb)) hk
 have g := pt_gap (La ++ Lb) k hk
 rw [con_const La _ _ r1 r3 (fun s hs => g s (List.mem_append_left _ hs)) d h0 h1, con_const Lb _ _ r1 r3 (fun s hs => g s (List.mem_append_right _ hs)) d h0 h1]
def bothL (P : Int → Bool) (zs : List Int) : Nat → List Sp
 | 0 => []
 | k + 1 => if P (el zs k) = true then apS (bothL P zs k) (el zs k, nx zs k) else bothL P zs k
def EndLe (L : List Sp) (b : Int) : Prop := ∀ x, L.getLast? = some x → x.2 ≤ b
theorem apS_end (L : List Sp) (s : Sp) (h : EndLe L s.1) (hs : s.1 < s.2) : EndLe (apS L s) s.2 := by
 rcases List.eq_nil_or_concat L with rfl | ⟨K, x, rfl⟩
 · intro y hy
   rw [apS_nil] at hy
   simp at hy
   subst hy
   exact Int.le_refl _
 · have hx : x.2 ≤ s.1 := h x (by simp)
   rw [List.concat_eq_append, apS_snoc]
   split
   · intro y hy; simp at hy; subst hy; exact Int.le_refl _
   · intro y hy; simp at hy; subst hy; simp only; omega
theorem both_inv (P : Int → Bool) (zs : List Int) (hz : PtsOk zs) (hc : ∀ k, k < zs.length → ∀ d, el zs k ≤ d → d < nx zs k → P d = P (el zs k)) : ∀ k, k ≤ zs.length →
   SepL (-1) (bothL P zs k) ∧ EndLe (bothL P zs k) (bd zs k) ∧ (∀ d, 0 ≤ d → d ≤ 1048576 → memB (bothL P zs k) d = (decide (d < bd zs k) && P d)) ∧ (bothL P zs k).length ≤ k
 | 0, _ => by
   refine ⟨trivial, fun x hx => by simp [bothL] at hx, fun d h0 h1 => ?_, by simp [bothL]⟩
   obtain ⟨⟨r, rfl⟩, _, _⟩ := hz
   have e : bd (0 :: r) 0 = 0 := by unfold bd; rw [if_pos (by simp)]; rfl
   rw [e, decide_eq_false (by omega)]
   rfl
 | k + 1, hk => by
   obtain ⟨i1, i2, i3, i4⟩ := both_inv P zs hz hc k (by omega)
   have hkl : k < zs.length := by omega
   obtain ⟨r1, r2, r3⟩ := pt_range hz hkl
   have eb : bd zs k = el zs k := by unfold bd; rw [if_pos hkl]
   rw [eb] at i2 i3
   rw [← nx_bd, bothL]
   by_cases hp : P (el zs k) = true
   · rw [if_pos hp]
     have hl : LastLe (bothL P zs k) (el zs k) := by
       intro x hx
       have h2 := i2 x hx
       rcases List.eq_nil_or_concat (bothL P zs k) with h | ⟨K, y, h⟩
       · rw [h] at hx; simp at hx
       · rw [h, List.concat_eq_append] at hx i1
         simp at hx
         subst hx
         have := (sep_end K (-1) y i1).1
         omega
     obtain ⟨a1, a2, a3⟩ := apS_ok (bothL P zs k) (el zs k, nx zs k) i1 hl r1 r2 r3
     refine ⟨a1, apS_end _ _ i2 r2, fun d h0 h1 => ?_, by have := apS_len (bothL P zs k) (el zs k, nx zs k); omega⟩
     rw [a2, i3 d h0 h1]
     by_cases c1 : d < el zs k
     · rw [decide_eq_true c1, decide_eq_true (show d < nx zs k by omega)]
       have : memB [(el zs k, nx zs k)] d = false := by simp [memB]; omega
       rw [this, Bool.or_false]
     · by_cases c2 : d < nx zs k
       · rw [decide_eq_false c1, decide_eq_true c2, hc k hkl d (by omega) c2, hp]
         simp [memB]; omega
       · rw [decide_eq_false c1, decide_eq_false c2]
         simp [memB]; omega
   · rw [if_neg hp]
     refine ⟨i1, fun x hx => by have := i2 x hx; omega, fun d h0 h1 => ?_, by omega⟩
     rw [i3 d h0 h1]
     by_cases c1 : d < el zs k
     · rw [decide_eq_true c1, decide_eq_true (show d < nx zs k by omega)]
     · by_cases c2 : d < nx zs k
       · have hpf : P (el zs k) = false := by simpa using hp
         rw [decide_eq_false c1, decide_eq_true c2, hc k hkl d (by omega) c2, hpf]
         rfl
       · rw [decide_eq_false c1, decide_eq_false c2]
def opP (h : Int) (La Lb : List Sp) (d : Int) : Bool := opB h (conB La d) (conB Lb d)
theorem both_is (h : Int) (La Lb : List Sp) : Is (bothL (opP h La Lb) (pts (La ++ Lb)) (pts (La ++ Lb)).length) (opP h La Lb) := by
 obtain ⟨i1, _, i3, _⟩ := both_inv (opP h La Lb) (pts (La ++ Lb)) (pts_ok _) (fun k hk d h0 h1 => op_const h La Lb k hk d h0 h1) _ (Nat.le_refl _)
 refine ⟨i1, fun d h0 h1 => ?_⟩
 rw [i3 d h0 h1]
 have e : bd (pts (La ++ Lb)) (pts (La ++ Lb)).length = 1048577 := by unfold bd; rw [if_neg (by omega)]
 rw [e, decide_eq_true (by omega), Bool.true_and]
open Classical in
noncomputable def canon (P : Int → Bool) : List Sp := if h : ∃ R, Is R P then Classical.choose h else []
theorem canon_is {P : Int → Bool} {R : List Sp} (h : Is R P) : R = canon P := by
 have he : ∃ R, Is R P := ⟨R, h⟩
 unfold canon
 rw [dif_pos he]
 exact h.unique (Classical.choose_spec he) fun _ _ _ => rfl
theorem con_mem (L : List Sp) (d : Int) (h0 : 0 ≤ d) (h1 : d ≤ 1048576) : conB L d = memB L d := by unfold conB; rw [decide_eq_true ⟨h0, h1⟩, Bool.true_and]
theorem op0 (La Lb : List Sp) (d : Int) (h0 : 0 ≤ d) (h1 : d ≤ 1048576) : opP 0 La Lb d = (memB La d || memB Lb d) := by
 unfold opP opB; rw [if_pos rfl, con_mem La d h0 h1, con_mem Lb d h0 h1]
theorem op1 (La Lb : List Sp) (d : Int) (h0 : 0 ≤ d) (h1 : d ≤ 1048576) : opP 1 La Lb d = (memB La d && memB Lb d) := by
 unfold opP opB; rw [if_neg (by omega), if_pos rfl, con_mem La d h0 h1, con_mem Lb d h0 h1]
theorem until_val (d t : Int) (h0 : 0 ≤ d) : memB [(0, t)] d = decide (d < t) := by simp [memB, h0]
theorem since_val (d t : Int) (h1 : d ≤ 1048576) : memB [(t, 1048577)] d = !decide (d < t) := by
 rw [Bool.eq_iff_iff]; simp [memB]; omega
end Go.Proofs.Ytmgjpmjmondplaa.Rm
