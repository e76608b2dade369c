/-
  LabelNextFree: the walk along the sequence of labels; few, In, Free, NextFree.
-/
import Derived.Test.YtbjdfghakhplnaaDoorOpn
import Derived.Test.YtbjdfghakhplnaaDoorLawN
namespace Go.Proofs.YtbjdfghakhplnaaDoor
open Go.RowKit (wrap32 wrap64 intOf Hid Below)
open Lab

/-- The sequence s, Next(s), .. -/
def it (s : Bs) : Nat → Option Bs
  | 0 => if mayL s = true then some s else none
  | k + 1 => (it s k).bind nextL
theorem it_may (s : Bs) : ∀ (k : Nat) (x : Bs), it s k = some x → mayL x = true
  | 0, x, h => by
    unfold it at h
    by_cases hm : mayL s = true
    · rw [if_pos hm] at h; rw [← Option.some.inj h]; exact hm
    · rw [if_neg hm] at h; cases h
  | k + 1, x, h => by
    unfold it at h
    cases hk : it s k with
    | none => rw [hk] at h; cases h
    | some y =>
      rw [hk] at h
      obtain ⟨n, c, m, d, _, _, _, _, rfl, ho, _⟩ := nextl_some (l := y) (t := x) h
      exact (may_txt ho).1
theorem it_next {s x : Bs} {k : Nat} (h : it s k = some x) : it s (k + 1) = nextL x := by
  show (it s k).bind nextL = _
  rw [h]; rfl
/-- The first of the sequence that is not in the list, or none. -/
def FreeAt (L : List Str) (s : Bs) (k : Nat) : Prop := (∀ j, j < k → ∃ x, it s j = some x ∧ mk x ∈ L)
def FreeIs (L : List Str) (s : Bs) (R : Option Bs) : Prop := ∃ k, FreeAt L s k ∧ it s k = R ∧ (∀ x, R = some x → mk x ∉ L)
theorem FreeAt.step {L : List Str} {s x : Bs} {k : Nat} (h : FreeAt L s k) (hx : it s k = some x) (hm : mk x ∈ L) : FreeAt L s (k + 1) := fun j hj => by
  by_cases hjk : j = k
  · subst hjk; exact ⟨x, hx, hm⟩
  · exact h j (by omega)
theorem FreeIs.unique {L : List Str} {s : Bs} {R S : Option Bs} (h : FreeIs L s R) (g : FreeIs L s S) : R = S := by
  obtain ⟨k, h1, h2, h3⟩ := h
  obtain ⟨l, g1, g2, g3⟩ := g
  rcases Nat.lt_trichotomy k l with hlt | rfl | hlt
  · obtain ⟨x, hx, hm⟩ := g1 k hlt
    exact absurd hm (h3 x (by rw [← h2, hx]))
  · rw [← h2, ← g2]
  · obtain ⟨x, hx, hm⟩ := h1 l hlt
    exact absurd hm (g3 x (by rw [← g2, hx]))
/-- Whether a string is in the list. -/
def memB (L : List Str) (s : Str) : Bool := L.any fun x => decide (x = s)
theorem mem_yes {L : List Str} {s : Str} (h : s ∈ L) : memB L s = true := by
  unfold memB
  rw [List.any_eq_true]
  exact ⟨s, h, by rw [decide_eq_true_eq]⟩
theorem mem_no {L : List Str} {s : Str} (h : ¬ s ∈ L) : memB L s = false := by
  unfold memB
  rw [List.any_eq_false]
  intro x hx
  rw [decide_eq_true_eq]
  rintro rfl
  exact h hx
/-- How many of the list do not come before a label. -/
def cnt (L : List Str) (s : Bs) : Nat := (L.filter fun x => decide (compL s x.data.toList ≤ 0)).length
theorem filter_lt {α : Type} {p q : α → Bool} (h : ∀ x, q x = true → p x = true) : ∀ {l : List α} {a : α}, a ∈ l → p a = true → q a = false → (l.filter q).length < (l.filter p).length
  | x :: l, a, ha, hp, hq => by
    have hle : ∀ l : List α, (l.filter q).length ≤ (l.filter p).length := fun l => by
      induction l with
      | nil => simp
      | cons y l ih =>
        rw [List.filter_cons, List.filter_cons]
        by_cases hy : q y = true
        · rw [if_pos hy, if_pos (h y hy)]; simp; exact ih
        · rw [if_neg hy]
          by_cases hy2 : p y = true
          · rw [if_pos hy2]; simp; omega
          · rw [if_neg hy2]; exact ih
    rcases List.mem_cons.1 ha with rfl | ha
    · rw [List.filter_cons, List.filter_cons, if_neg (by rw [hq]; decide), if_pos hp]
      have := hle l
      simp; omega
    · have ih := filter_lt h ha hp hq
      rw [List.filter_cons, List.filter_cons]
      by_cases hy : q x = true
      · rw [if_pos hy, if_pos (h x hy)]; simp; exact ih
      · rw [if_neg hy]
        by_cases hy2 : p x = true
        · rw [if_pos hy2]; simp; omega
        · rw [if_neg hy2]; exact ih
theorem comp_refl (a : Bs) : compL a a = 0 := by
  have := comp_anti a a
  omega
theorem next_comp {s t : Bs} (h : nextL s = some t) : compL s t = -1 ∧ t.length ≤ 7 := by
  obtain ⟨n, c, m, d, o1, rfl, _, _, rfl, o2, hlt⟩ := nextl_some h
  exact ⟨comp_neg o1 o2 hlt, may_len (may_txt o2).1⟩
theorem cnt_next {L : List Str} {s t : Bs} (hn : nextL s = some t) (hm : mk s ∈ L) : cnt L t < cnt L s := by
  unfold cnt
  have hc := (next_comp hn).1
  refine filter_lt (fun x hx => ?_) hm ?_ ?_
  · rw [decide_eq_true_eq] at hx ⊢
    have := (comp_trans s t x.data.toList).1
    omega
  · rw [decide_eq_true_eq, mk_list, comp_refl]; omega
  · rw [decide_eq_false_iff_not, mk_list, comp_anti s t]
    omega
def txtOf : Value → Bs
  | .string a => a.data.toList
  | _ => []
def isYes : Value → Bool
  | .bool b => b
  | _ => false

set_option maxHeartbeats 1000000 in
theorem in_any (L : List Str) (s : Str) (n c : Nat) (A : Option Addr) (w : World) (hl : Sq w A n c L) :
    Calls Tryd.prog 27 #[.slice A n c, .string s] w fun e w' => e = .returned (.bool (memB L s)) ∧ w = w' := by
  have HL := Lib.hid hl
  have HLn := Lib.hid hl.len
  have hn := hl.1.2.2.2.1
  clear hl
  go_enter Tryd.func27, Tryd.ntmps27
  go_wp2
  go_loop [5] (fun i => ∃ k : Nat, k ≤ n ∧ i = .int .i64 k ∧ ∀ j, j < k → st L j ≠ s) (fun i => n - (intOf i).toNat)
  case atStart => exact ⟨0, Nat.zero_le _, rfl, fun j hj => absurd hj (by omega)⟩
  case round =>
    obtain ⟨k, hk, rfl, hg⟩ := hrel
    have HG := Lib.hid hg
    clear hg
    by_cases hlt : k < n
    · obtain ⟨b, off, rfl, hB, hcell⟩ := HL.out.1.1.str (Below.refl _ _) hlt
      have hs := str_eq (st L k) s
      by_cases he : st L k = s
      · have HY : Hid (s ∈ L) := Lib.hid (by rw [← he, st_eq (by rw [HLn.out]; exact hlt)]; exact List.getElem_mem _)
        rw [decide_eq_true he] at hs
        clear he
        go_wp2
        go_ret
        exact ⟨ret_bool (mem_yes HY.out).symm, rfl⟩
      · rw [decide_eq_false he] at hs
        have HE := Lib.hid he
        clear he
        go_wp2
        go_round
        case rel => exact ⟨k + 1, by omega, by go_num, fun j hj => by
          by_cases h : j = k
          · subst h; exact HE.out
          · exact HG.out j (by omega)⟩
        case measure => simp [intOf]; omega
    · obtain rfl : k = n := by omega
      go_wp2
      go_ret
      exact ⟨ret_bool (mem_no fun h => by
        obtain ⟨j, hj, he⟩ := List.getElem_of_mem h
        exact HG.out j (by rw [← HLn.out]; exact hj) (by rw [st_eq hj]; exact he)).symm, rfl⟩

def FewRet (L : List Str) (n : Nat) (e : Ending) : Prop := ∃ b, e = .returned (.bool b) ∧ (b = true → n ≤ 60 ∧ ∀ j, j < n → (st L j).size ≤ 40)
set_option maxHeartbeats 1000000 in
theorem few_any (L : List Str) (n c : Nat) (A : Option Addr) (w : World) (hl : Sq w A n c L) :
    Calls Tryd.prog 21 #[.slice A n c] w fun e w' => FewRet L n e ∧ w = w' := by
  have HL := Lib.hid hl
  have hn := hl.1.2.2.2.1
  clear hl
  go_enter Tryd.func21, Tryd.ntmps21
  go_wp2
  go_loop [3] (fun i => ∃ k : Nat, k ≤ n ∧ i = .int .i64 k ∧ ∀ j, j < k → (st L j).size ≤ 40) (fun i => n - (intOf i).toNat)
  case atStart => exact ⟨0, Nat.zero_le _, rfl, fun j hj => absurd hj (by omega)⟩
  case round =>
    obtain ⟨k, hk, rfl, hg⟩ := hrel
    have HG := Lib.hid hg
    clear hg
    by_cases hlt : k < n
    · obtain ⟨b, off, rfl, hB, hcell⟩ := HL.out.1.1.str (Below.refl _ _) hlt
      by_cases h40 : (st L k).size ≤ 40
      · have HE := Lib.hid h40
        go_wp2
        go_round
        case rel => exact ⟨k + 1, by omega, by go_num, fun j hj => by
          by_cases h : j = k
          · subst h; exact HE.out
          · exact HG.out j (by omega)⟩
        case measure => simp [intOf]; omega
      · have h40' : (40 : Int) < (st L k).size := by omega
        go_wp2
        go_ret
        exact ⟨⟨false, rfl, fun h => by cases h⟩, rfl⟩
    · obtain rfl : k = n := by omega
      by_cases h60 : k ≤ 60
      · go_wp2
        go_ret
        exact ⟨⟨true, by first | rfl | (apply ret_bool; simp; omega), fun _ => ⟨h60, HG.out⟩⟩, rfl⟩
      · go_wp2
        go_ret
        exact ⟨⟨false, by first | rfl | (apply ret_bool; simp; omega), fun h => by cases h⟩, rfl⟩

/-- What Free hands back, and what NextFree does. -/
def frV : Option Bs → Str
  | some x => mk x
  | none => ⟨#[]⟩
def FrRet (L : List Str) (s : Bs) (e : Ending) : Prop := ∃ R, FreeIs L s R ∧ e = .returned (.string (frV R))
def NfRet (L : List Str) (s : Bs) (e : Ending) : Prop := ∃ R, FreeIs L s R ∧ e = .returned (.tuple #[.string (frV R), .bool R.isSome])
theorem free_none {L : List Str} {s : Bs} (h : mayL s = false) : FreeIs L s none := ⟨0, fun j hj => absurd hj (by omega), by unfold it; rw [if_neg (by rw [h]; decide)], fun x hx => by cases hx⟩
theorem mk_ne {x : Bs} (h : mayL x = true) : mk x ≠ ⟨#[]⟩ := by
  rw [(may_ok h).2]
  exact txt_ne
theorem mk_full {x : Bs} (h : mayL x = true) : (mk x).toList.isEmpty = false := by
  rw [(may_ok h).2]
  exact txt_full

set_option maxHeartbeats 2000000 in
theorem free_any (L : List Str) (s : Str) (n c : Nat) (A : Option Addr) (w : World) (hl : Sq w A n c L) (hs : s.size ≤ 1000) :
    Calls Tryd.prog 26 #[.slice A n c, .string s] w fun e w' => FrRet L s.data.toList e ∧ Below w.heap.size w w' := by
  have HL := Lib.hid hl
  have HM := Lib.hid (may_any s w (by omega))
  have hb0 := Below.refl w.heap.size w
  clear hl
  cases hm : mayL s.data.toList with
  | false =>
    rw [hm] at HM
    have HF := Lib.hid (free_none (L := L) hm)
    clear hm
    go_enter Tryd.func26, Tryd.ntmps26
    go_wp2_with (go_at_call 14; ((with_reducible refine (HM.out).mono ?_); rintro e w1 ⟨rfl, rfl⟩))
    go_ret
    exact ⟨⟨none, HF.out, rfl⟩, hb0⟩
  | true =>
    rw [hm] at HM
    have HI0 : Hid (it s.data.toList 0 = some s.data.toList) := Lib.hid (by unfold it; rw [if_pos hm])
    have hE0 := str_eq ⟨#[]⟩ ⟨#[]⟩
    rw [decide_eq_true rfl] at hE0
    clear hm
    go_enter Tryd.func26, Tryd.ntmps26
    go_wp2_with (go_at_call 14; ((with_reducible refine (HM.out).mono ?_); rintro e w1 ⟨rfl, rfl⟩))
    go_loopw [1] (fun v wr => ∃ k : Nat, v = .string (frV (it s.data.toList k)) ∧ FreeAt L s.data.toList k ∧ Below w.heap.size w wr) (fun v _ => if mayL (txtOf v) = true then cnt L (txtOf v) + 1 else 0)
    case atStart => exact ⟨0, by rw [HI0.out]; exact congrArg Value.string (mk_self s).symm, fun j hj => absurd hj (by omega), hb0⟩
    case round =>
      rename World => w2
      obtain ⟨k, rfl, hat, hb⟩ := hrel
      have HAt := Lib.hid hat
      clear hat
      cases hik : it s.data.toList k with
      | none =>
        have HF : Hid (FreeIs L s.data.toList none) := Lib.hid ⟨k, HAt.out, hik, fun x hx => by cases hx⟩
        show Code.wp _ _ _ _ _
        unfold frV
        simp only
        clear hik
        go_wp2
        go_ret
        exact ⟨⟨none, HF.out, rfl⟩, hb⟩
      | some x =>
        have hmx := it_may _ _ _ hik
        have hne := mk_full hmx
        have hne2 := str_eq (mk x) ⟨#[]⟩
        rw [decide_eq_false (mk_ne hmx)] at hne2
        have hx7 := may_len hmx
        have hxs : (mk x).size ≤ 1000 := by rw [mk_size]; omega
        have HIn := Lib.hid (in_any L (mk x) n c A w2 (HL.out.below hb))
        have HNx := Lib.hid (refnext_any (mk x) w2 (by omega))
        rw [mk_list] at HNx
        have HNi := Lib.hid (it_next hik)
        have HIk := Lib.hid hik
        have HMx := Lib.hid hmx
        show Code.wp _ _ _ _ _
        unfold frV
        simp only
        by_cases hin : mk x ∈ L
        · rw [mem_yes hin] at HIn
          have HAt2 := Lib.hid (HAt.out.step hik hin)
          have hv : rnV x = .string (frV (nextL x)) := by unfold rnV frV; cases nextL x <;> rfl
          rw [hv] at HNx
          have HMe : Hid ((if mayL (txtOf (.string (frV (nextL x)))) = true then cnt L (txtOf (.string (frV (nextL x)))) + 1 else 0) < cnt L x + 1) := Lib.hid (by
            cases hnx : nextL x with
            | none =>
              have : mayL (txtOf (.string (frV none))) = false := rfl
              rw [if_neg (by rw [this]; decide)]
              omega
            | some t =>
              have h1 := cnt_next (L := L) hnx hin
              split
              · show cnt L t + 1 < _
                omega
              · omega)
          obtain ⟨T, hT⟩ : ∃ T, T = mk x := ⟨_, rfl⟩
          obtain ⟨U, hU⟩ : ∃ U, U = frV (nextL x) := ⟨_, rfl⟩
          rw [← hT] at HIn HNx hne hne2 ⊢
          rw [← hU] at HNx HMe
          have HT := Lib.hid hT
          have HU := Lib.hid hU
          clear hT hU hin hik hmx hv hxs
          go_wp2_with (first
            | (go_at_call 27; ((with_reducible refine (HIn.out).mono ?_); rintro e w3 ⟨rfl, rfl⟩))
            | (go_at_call 18; ((with_reducible refine (HNx.out).mono ?_); rintro e w4 ⟨rfl, hb4⟩)))
          go_roundw
          case rel => exact ⟨k + 1, by rw [HU.out, HNi.out]; rfl, HAt2.out, hb.trans (hb4.mono hb.size)⟩
          case measure =>
            have h1 := HMe.out
            have h2 : (if mayL (txtOf (.string T)) = true then cnt L (txtOf (.string T)) + 1 else 0) = cnt L x + 1 := by
              rw [HT.out]
              show (if mayL x = true then cnt L x + 1 else 0) = _
              rw [if_pos HMx.out]
            show (if mayL (txtOf (.string U)) = true then _ else _) < (if mayL (txtOf (.string T)) = true then _ else _)
            rw [h2]
            exact h1
        · rw [mem_no hin] at HIn
          have HF : Hid (FreeIs L s.data.toList (some x)) := Lib.hid ⟨k, HAt.out, hik, fun y hy => by rw [← Option.some.inj hy]; exact hin⟩
          obtain ⟨T, hT⟩ : ∃ T, T = mk x := ⟨_, rfl⟩
          rw [← hT] at HIn hne hne2 ⊢
          have HT := Lib.hid hT
          clear hT hin hik hmx hxs
          go_wp2_with (go_at_call 27; ((with_reducible refine (HIn.out).mono ?_); rintro e w3 ⟨rfl, rfl⟩))
          go_ret
          exact ⟨⟨some x, HF.out, by rw [HT.out]; rfl⟩, hb⟩
end Go.Proofs.YtbjdfghakhplnaaDoor
