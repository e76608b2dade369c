/-
  The walk of the law DateSittings.
-/
import Derived.Test.YtagapapnpefckaaDoorRefSit
namespace Go.Proofs.YtagapapnpefckaaDoor
open Go.RowKit (wrap32 wrap64 intOf Hid Below)
open Cal

theorem IntsAt.mono {B B' : Nat} {w : World} {A : Option Addr} {n : Nat} {zs : List Int} (h : IntsAt B w A n zs) (hB : B ≤ B') : IntsAt B' w A n zs :=
  ⟨h.1, fun hn => by
    obtain ⟨b, off, e, hlt, hc⟩ := h.2 hn
    exact ⟨b, off, e, by omega, hc⟩⟩
theorem sitV_form (zs : List Int) (d : Int) (K : Nat) : ∃ x y : Int, sitV zs d K = .tuple #[.int .i64 x, .int .i64 y] := by
  unfold sitV
  split
  · exact ⟨_, _, rfl⟩
  · exact ⟨_, _, rfl⟩
theorem below_drawn (w : World) (q : Nat) : Below w.heap.size w (w.drewN q) := ⟨rfl, rfl, rfl, Nat.le_refl _, fun _ _ => rfl⟩
theorem good_mono {zs : List Int} (h : goodB zs = true) (i : Nat) : ∀ j, i ≤ j → j < zs.length → el zs i ≤ el zs j := by
  intro j
  induction j with
  | zero => intro h1 _; obtain rfl : i = 0 := by omega
            exact Int.le_refl _
  | succ j ih =>
    intro h1 h2
    by_cases hij : i = j + 1
    · subst hij; exact Int.le_refl _
    · have := ih (by omega) (by omega)
      have := (good_all h (j + 1) h2).2 (by omega)
      simp only [Nat.add_sub_cancel] at this
      omega
theorem count_at {zs : List Int} (h : goodB zs = true) (i : Nat) (hi : i < zs.length) : CountIs zs (el zs i) (i + 1) :=
  ⟨hi, fun j hj => good_mono h j i (by omega) hi, fun hl => by
    have := (good_all h (i + 1) hl).2 (by omega)
    simpa using this⟩

/-- The contracts at every later world. -/
theorem sitting_later (zs : List Int) (d : Int) (K n c : Nat) (A : Option Addr) (w W : World) (hz : IntsAt w.heap.size w A n zs) (hn : n ≤ maxLen) (hK : CountIs zs d K) (hb : Below w.heap.size w W) :
    Calls Tryd.prog 24 #[.slice A n c, .int .i64 d] W fun e w' => e = .returned (sitV zs d K) ∧ Below w.heap.size w w' :=
  (sitting_any zs d K n c A W ((hz.below hb).mono hb.size) hn hK).mono fun _ _ ⟨he, hw⟩ => ⟨he, hb.trans (hw.mono hb.size)⟩
theorem refSitting_later (zs : List Int) (d : Int) (K n c : Nat) (A : Option Addr) (w W : World) (hz : IntsAt w.heap.size w A n zs) (hn : n ≤ maxLen) (hK : CountIs zs d K) (hb : Below w.heap.size w W) :
    Calls Tryd.prog 25 #[.slice A n c, .int .i64 d] W fun e w' => e = .returned (sitV zs d K) ∧ Below w.heap.size w w' :=
  (refSitting_any zs d K n c A W ((hz.below hb).mono hb.size) hn hK).mono fun _ _ ⟨he, q, hw⟩ => ⟨he, hw ▸ hb.trans ((below_drawn W q).mono hb.size)⟩
theorem rises_later (zs : List Int) (n c : Nat) (A : Option Addr) (w W : World) (hz : IntsAt w.heap.size w A n zs) (hn : n ≤ maxLen) (hb : Below w.heap.size w W) :
    Calls Tryd.prog 26 #[.slice A n c] W fun e w' => e = .returned (.bool (sitB zs)) ∧ Below w.heap.size w w' :=
  (rises_any zs n c A W ((hz.below hb).mono hb.size) hn).mono fun _ _ ⟨he, q, hw⟩ => ⟨he, hw ▸ hb.trans ((below_drawn W q).mono hb.size)⟩

set_option maxHeartbeats 1000000 in
/-- The law DateSittings. -/
theorem lawSittings (zs : List Int) (A : Option Addr) (n c : Nat) (d t : Int) (w : World) (ht : Tab w) (hz : IntsAt w.heap.size w A n zs) (hn : n ≤ maxLen) (_ : -9223372036854775808 ≤ d ∧ d ≤ 9223372036854775807) (hat : -9223372036854775808 ≤ t ∧ t ≤ 9223372036854775807) :
    Calls Tryd.prog 8 #[.slice A n c, .int .i64 d, .int .i64 t] w fun e w' => e = .returned (.bool true) ∧ Below w.heap.size w w' := by
  obtain ⟨K, hK⟩ := count_of zs d
  obtain ⟨x, y, hxy⟩ := sitV_form zs d K
  have HS : Hid (∀ W, Below w.heap.size w W → Calls Tryd.prog 24 #[.slice A n c, .int .i64 d] W fun e w' => e = .returned (.tuple #[.int .i64 x, .int .i64 y]) ∧ Below w.heap.size w w') := Lib.hid fun W hb => by
    rw [← hxy]; exact sitting_later zs d K n c A w W hz hn hK hb
  have HT : Hid (∀ W, Below w.heap.size w W → Calls Tryd.prog 25 #[.slice A n c, .int .i64 d] W fun e w' => e = .returned (.tuple #[.int .i64 x, .int .i64 y]) ∧ Below w.heap.size w w') := Lib.hid fun W hb => by
    rw [← hxy]; exact refSitting_later zs d K n c A w W hz hn hK hb
  have HR : Hid (∀ W, Below w.heap.size w W → Calls Tryd.prog 26 #[.slice A n c] W fun e w' => e = .returned (.bool (sitB zs)) ∧ Below w.heap.size w w') := Lib.hid fun W hb => rises_later zs n c A w W hz hn hb
  have HN := Lib.hid hn
  have HL := Lib.hid hz.1
  clear hxy hK K
  have hn' := hn
  clear hn
  unfold maxLen at hn'
  by_cases h100 : 100 < n
  · clear hz HS HT HR
    go_enter Tryd.func8, Tryd.ntmps8
    go_wp2_with (go_at_call 9; refine (awake_any _ ht).mono ?_; rintro e w0 ⟨rfl, hb0⟩)
    go_ret
    exact ⟨rfl, hb0⟩
  · cases hs : sitB zs
    · rw [hs] at HR
      clear hz hs
      go_enter Tryd.func8, Tryd.ntmps8
      go_wp2_with (first
        | (go_at_call 9; refine (awake_any _ ht).mono ?_; rintro e w0 ⟨rfl, hb0⟩)
        | (go_at_call 24; refine (HS.out _ hb0).mono ?_; rintro e w1 ⟨rfl, hb1⟩)
        | (go_at_call 25; refine (HT.out _ hb1).mono ?_; rintro e w2 ⟨rfl, hb2⟩)
        | (go_at_call 26; refine (HR.out _ hb2).mono ?_; rintro e w3 ⟨rfl, hb3⟩))
      go_ret
      exact ⟨rfl, hb3⟩
    · rw [hs] at HR
      have hg : goodB zs = true := by simp [sitB] at hs; exact hs.2
      by_cases hin : 0 ≤ t ∧ t < n
      · obtain ⟨i, rfl⟩ : ∃ i : Nat, t = i := ⟨t.toNat, by omega⟩
        have hi : i < n := by omega
        obtain ⟨b, off, hA, hB, hc⟩ := hz.2 (by omega)
        have hv : sitV zs (el zs i) (i + 1) = .tuple #[.int .i64 ((i : Int) + 1), .int .i64 1] := by
          have hgd := (good_all hg i (by have := HL.out; omega)).1
          have hday : dayB (el zs i) = true := by simp [dayB, hgd]
          simp only [sitV, hday, hs, Nat.add_sub_cancel]
          rw [if_pos (by simp), show el zs i - el zs i + 1 = 1 by omega]
          rfl
        have HQ : Hid (∀ W, Below w.heap.size w W → Calls Tryd.prog 24 #[.slice A n c, .int .i64 (el zs i)] W fun e w' => e = .returned (.tuple #[.int .i64 ((i : Int) + 1), .int .i64 1]) ∧ Below w.heap.size w w') := Lib.hid fun W hb => by
          rw [← hv]; exact sitting_later zs (el zs i) (i + 1) n c A w W hz HN.out (count_at hg i (by have := HL.out; omega)) hb
        have HC : Hid (∀ W, Below w.heap.size w W → W.cell? ⟨b, off + i, none⟩ = some (.int .i64 (el zs i))) := Lib.hid fun W hb => (hb.cell (p := ⟨b, off + i, none⟩) hB).trans (hc i hi)
        subst hA
        clear hz hs hg hv hc hin
        go_enter Tryd.func8, Tryd.ntmps8
        go_wp2_with (first
          | (go_at_call 9; refine (awake_any _ ht).mono ?_; rintro e w0 ⟨rfl, hb0⟩)
          | (go_at_call 24; ((with_reducible refine (HS.out _ hb0).mono ?_); rintro e w1 ⟨rfl, hb1⟩))
          | (go_at_call 24; ((with_reducible refine (HQ.out _ hb3).mono ?_); rintro e w4 ⟨rfl, hb4⟩))
          | (go_at_call 25; refine (HT.out _ hb1).mono ?_; rintro e w2 ⟨rfl, hb2⟩)
          | (go_at_call 26; refine (HR.out _ hb2).mono ?_; rintro e w3 ⟨rfl, hb3⟩; have hcell := HC.out _ hb3))
        go_ret
        exact ⟨rfl, hb4⟩
      · have hout : t < 0 ∨ n ≤ t := by omega
        clear hz hs hg hin
        by_cases ht0 : t < 0
        all_goals
          go_enter Tryd.func8, Tryd.ntmps8
          go_wp2_with (first
            | (go_at_call 9; refine (awake_any _ ht).mono ?_; rintro e w0 ⟨rfl, hb0⟩)
            | (go_at_call 24; refine (HS.out _ hb0).mono ?_; rintro e w1 ⟨rfl, hb1⟩)
            | (go_at_call 25; refine (HT.out _ hb1).mono ?_; rintro e w2 ⟨rfl, hb2⟩)
            | (go_at_call 26; refine (HR.out _ hb2).mono ?_; rintro e w3 ⟨rfl, hb3⟩))
          go_ret
          exact ⟨rfl, hb3⟩
end Go.Proofs.YtagapapnpefckaaDoor
