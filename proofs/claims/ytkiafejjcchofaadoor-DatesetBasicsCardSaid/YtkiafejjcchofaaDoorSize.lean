/-
  The contracts of Size and Contains.
-/
import Derived.Test.YtkiafejjcchofaaDoorLater
namespace Go.Proofs.YtkiafejjcchofaaDoor
open Go.RowKit (wrap32 wrap64 intOf Hid Below)
open Spans

/-- The number of days of a list of spans that do not overlap. -/
def sizeS : List Sp → Int
  | [] => 0
  | s :: r => s.2 - s.1 + sizeS r
theorem sizeS_app : ∀ (a b : List Sp), sizeS (a ++ b) = sizeS a + sizeS b
  | [], b => by simp [sizeS]
  | s :: r, b => by
    rw [List.cons_append, sizeS, sizeS, sizeS_app r b]
    omega
theorem sizeS_nonneg : ∀ (a : List Sp) (lo : Int), SepL lo a → 0 ≤ sizeS a ∧ (lo ≤ 1048577 → sizeS a ≤ 1048577 - lo)
  | [], _, _ => by simp [sizeS]
  | s :: r, lo, h => by
    obtain ⟨h1, h2, h3, h4⟩ := h
    obtain ⟨a1, a2⟩ := sizeS_nonneg r s.2 h4
    have := a2 h3
    rw [sizeS]
    omega
theorem sizeS_drop : ∀ (a : List Sp) (lo : Int) (k : Nat), SepL lo a → 0 ≤ sizeS (a.drop k)
  | [], lo, k, h => by simp [sizeS]
  | s :: r, lo, 0, h => (sizeS_nonneg (s :: r) lo h).1
  | s :: r, lo, k + 1, h => by
    rw [List.drop_succ_cons]
    exact sizeS_drop r s.2 k h.2.2.2
theorem sizeS_take (a : List Sp) (k : Nat) (hk : k < a.length) : sizeS (a.take (k + 1)) = sizeS (a.take k) + (to a k - fr a k) := by
  rw [take_step a k hk, sizeS_app]
  simp [sizeS]
theorem sizeS_pos : ∀ (a : List Sp), (∀ k, k < a.length → fr a k ≤ to a k) → 0 ≤ sizeS a
  | [], _ => by simp [sizeS]
  | s :: r, h => by
    have h0 := h 0 (by simp)
    have := sizeS_pos r (fun k hk => h (k + 1) (by simpa using hk))
    have e0 : fr (s :: r) 0 = s.1 := rfl
    have e1 : to (s :: r) 0 = s.2 := rfl
    rw [sizeS]
    omega
theorem sizeS_range (a : List Sp) (h : SepL (-1) a) (k : Nat) : 0 ≤ sizeS (a.take k) ∧ sizeS (a.take k) ≤ 1048578 := by
  have h1 := (sizeS_nonneg a (-1) h).2 (by omega)
  have h2 := sizeS_drop a (-1) k h
  have e := sizeS_app (a.take k) (a.drop k)
  rw [List.take_append_drop] at e
  have h3 : 0 ≤ sizeS (a.take k) := by
    refine sizeS_pos _ fun j hj => ?_
    rw [List.length_take] at hj
    have := sep_ok a (-1) (by omega) h j (by omega)
    have e1 : fr (a.take k) j = fr a j := by unfold fr; simp [List.getD, List.getElem?_take]; rw [if_pos (by omega)]
    have e2 : to (a.take k) j = to a j := by unfold to; simp [List.getD, List.getElem?_take]; rw [if_pos (by omega)]
    omega
  omega

set_option maxHeartbeats 1000000 in
theorem size_c (La : List Sp) (N ca : Nat) (Aa : Option Addr) (w : World) (hza : SpansAt w.heap.size w Aa N La) (hN : N ≤ 2000000) :
    Calls Tryd.prog 18 #[.slice Aa N ca] w fun e w' => e = .returned (.int .i64 (sizeS (canon (memB La)))) ∧ Below w.heap.size w w' := by
  have HA := Lib.hid (norm_c La N ca Aa w hza hN)
  clear hza
  obtain ⟨R, hR⟩ : ∃ R, R = canon (memB La) := ⟨_, rfl⟩
  rw [← hR]
  have HRd := Lib.hid hR
  clear hR
  go_enter Tryd.func18, Tryd.ntmps18
  go_wp2_with (go_at_call 14; ((with_reducible refine (HA.out).mono ?_); rintro e w1 ⟨⟨A1, n1, c1, rfl, z1, i1, l1⟩, hb1⟩))
  rw [← HRd.out] at z1 i1
  have HR := Lib.hid (fun k => sizeS_range R i1.1 k)
  have HS := Lib.hid i1.1
  have HL := Lib.hid z1.1
  go_loopw [3, 9] (fun v i wr => ∃ k : Nat, k ≤ n1 ∧ i = .int .i64 k ∧ v = .int .i64 (sizeS (R.take k)) ∧ Below w1.heap.size w1 wr) (fun _ i _ => n1 - (intOf i).toNat)
  case atStart => exact ⟨0, Nat.zero_le _, rfl, rfl, Below.refl _ _⟩
  case round =>
    obtain ⟨k, hk, rfl, rfl, hb⟩ := hrel
    by_cases hlt : k < n1
    · obtain ⟨b, off, rfl, hB, c1', c2'⟩ := z1.cells hb hlt
      have hT := sizeS_take R k (by have := HL.out; omega)
      obtain ⟨r1, r2⟩ := HR.out k
      obtain ⟨r3, r4⟩ := HR.out (k + 1)
      obtain ⟨s1, s2, s3⟩ := sep_ok R (-1) (by omega) HS.out k (by have := HL.out; omega)
      rw [hT] at r3 r4
      have HT := Lib.hid hT
      clear hT z1 i1
      go_wp2
      go_roundw
      case rel => exact ⟨k + 1, by omega, by go_num, by rw [HT.out], hb.alloc hb.size _⟩
      case measure => simp [intOf]; omega
    · obtain rfl : k = n1 := by omega
      have e : R.take k = R := List.take_of_length_le (by have := HL.out; omega)
      rw [e]
      clear z1 i1
      go_wp2
      go_ret
      exact ⟨rfl, hb1.trans (hb.mono hb1.size)⟩


/-! Contains. -/
theorem memB_take_step (L : List Sp) (k : Nat) (hk : k < L.length) (d : Int) : memB (L.take (k + 1)) d = (memB (L.take k) d || decide (fr L k ≤ d ∧ d < to L k)) := by
  rw [take_step L k hk, memB_app]
  simp [memB]
theorem memB_some (L : List Sp) (k : Nat) (hk : k < L.length) (d : Int) (h : decide (fr L k ≤ d ∧ d < to L k) = true) : memB L d = true := by
  rw [memB_iff]
  exact ⟨_, el_mem L k hk, of_decide_eq_true h⟩

set_option maxHeartbeats 1000000 in
/-- The closure: is the day in this span? -/
theorem inSpan_any (f t d : Int) (B : Nat) (w : World) (hc : w.cell? ⟨B, 0, none⟩ = some (.int .i64 d)) :
    Calls Tryd.prog 37 #[.agg #[.int .i64 f, .int .i64 t], .pointer (some ⟨B, 0, none⟩)] w fun e w' => e = .returned (.bool (decide (f ≤ d ∧ d < t))) ∧ Below w.heap.size w w' := by
  have hB : B < w.heap.size := by
    rcases Nat.lt_or_ge B w.heap.size with h | h
    · exact h
    · exfalso
      have e : w.heap[B]? = none := Array.getElem?_eq_none h
      simp [World.cell?, e] at hc
  have hc1 : ∀ o, (w.alloc o).cell? ⟨B, 0, none⟩ = some (.int .i64 d) := fun o => by rw [World.cell?_alloc_lt _ _ _ (by simpa using hB)]; exact hc
  go_enter Tryd.func37, Tryd.ntmps37
  go_wp2
  all_goals
    go_ret
    exact ⟨ret_bool (by simp_all <;> omega), (Below.refl _ _).alloc (Nat.le_refl _) _⟩

set_option maxHeartbeats 1000000 in
theorem indexIn_any (La : List Sp) (N ca B : Nat) (Aa : Option Addr) (d : Int) (w : World) (hza : SpansAt B w Aa N La) (hN : N ≤ 2000000) (hB : B < w.heap.size) (hc : w.cell? ⟨B, 0, none⟩ = some (.int .i64 d)) :
    Calls Tryd.prog 49 #[.slice Aa N ca, .func (.func 37) #[] #[.pointer (some ⟨B, 0, none⟩)]] w fun e w' => (∃ r : Int, e = .returned (.int .i64 r) ∧ decide (0 ≤ r) = memB La d) ∧ Below w.heap.size w w' := by
  have HLEN := Lib.hid hza.1
  have hz := hza.mono (Nat.le_of_lt hB)
  have HC : Hid (∀ W k, Below w.heap.size w W → Calls Tryd.prog 37 #[.agg #[.int .i64 (fr La k), .int .i64 (to La k)], .pointer (some ⟨B, 0, none⟩)] W fun e w' => e = .returned (.bool (decide (fr La k ≤ d ∧ d < to La k))) ∧ Below w.heap.size w w') := Lib.hid fun W k h =>
    (inSpan_any _ _ d B W ((h.cell (p := ⟨B, 0, none⟩) hB).trans hc)).mono fun _ _ ⟨he, hb⟩ => ⟨he, h.trans (hb.mono h.size)⟩
  clear hza hc
  go_enter Tryd.func49, Tryd.ntmps49
  go_wp2
  go_loopw [8] (fun i wr => ∃ k : Nat, k ≤ N ∧ i = .int .i64 k ∧ Below w.heap.size w wr ∧ memB (La.take k) d = false) (fun i _ => N - (intOf i).toNat)
  case atStart => exact ⟨0, Nat.zero_le _, rfl, Below.refl _ _, rfl⟩
  case round =>
    obtain ⟨k, hk, rfl, hb, hm⟩ := hrel
    have HM := Lib.hid hm
    clear hm
    by_cases hlt : k < N
    · obtain ⟨b, off, rfl, hB', h1, h2⟩ := hz.cells hb hlt
      have HT := Lib.hid (memB_take_step La k (by have := HLEN.out; omega) d)
      have HCk := Lib.hid (HC.out · k)
      cases hin : decide (fr La k ≤ d ∧ d < to La k)
      · rw [hin] at HT HCk
        clear hin hz
        go_wp2_with (go_at_call 37; ((with_reducible refine (HCk.out _ hb).mono ?_); rintro e w' ⟨rfl, hb2⟩))
        go_roundw
        case rel => exact ⟨k + 1, by omega, by go_num, hb2, by rw [HT.out, HM.out]; rfl⟩
        case measure => simp [intOf]; omega
      · have HIn := Lib.hid (memB_some La k (by have := HLEN.out; omega) d hin)
        rw [hin] at HCk
        clear hin hz HT
        go_wp2_with (go_at_call 37; ((with_reducible refine (HCk.out _ hb).mono ?_); rintro e w' ⟨rfl, hb2⟩))
        go_ret
        exact ⟨⟨k, rfl, by rw [HIn.out]; simp⟩, hb2⟩
    · obtain rfl : k = N := by omega
      have e : La.take k = La := List.take_of_length_le (by have := HLEN.out; omega)
      rw [e] at HM
      clear hz
      go_wp2
      go_ret
      exact ⟨⟨-1, rfl, by rw [HM.out]; rfl⟩, hb⟩

set_option maxHeartbeats 1000000 in
theorem containsIn_any (La : List Sp) (N ca B : Nat) (Aa : Option Addr) (d : Int) (w : World) (hza : SpansAt B w Aa N La) (hN : N ≤ 2000000) (hB : B < w.heap.size) (hc : w.cell? ⟨B, 0, none⟩ = some (.int .i64 d)) :
    Calls Tryd.prog 36 #[.slice Aa N ca, .func (.func 37) #[] #[.pointer (some ⟨B, 0, none⟩)]] w fun e w' => e = .returned (.bool (memB La d)) ∧ Below w.heap.size w w' := by
  have HI := Lib.hid (indexIn_any La N ca B Aa d w hza hN hB hc)
  clear hza hc
  go_enter Tryd.func36, Tryd.ntmps36
  go_wp2_with (go_at_call 49; ((with_reducible refine (HI.out).mono ?_); rintro e w' ⟨⟨r, rfl, hr⟩, hb⟩; have HR := Lib.hid hr; clear hr))
  all_goals
    go_ret
    exact ⟨ret_bool (by rw [← HR.out]; first | done | rfl | (symm; simp; omega)), hb⟩

/-- The membership that Contains reports. -/
def conB (L : List Sp) (d : Int) : Bool := decide (0 ≤ d ∧ d ≤ 1048576) && memB L d
set_option maxHeartbeats 1000000 in
theorem contains_c (La : List Sp) (N ca : Nat) (Aa : Option Addr) (d : Int) (w : World) (hza : SpansAt w.heap.size w Aa N La) (hN : N ≤ 2000000) :
    Calls Tryd.prog 16 #[.slice Aa N ca, .int .i64 d] w fun e w' => e = .returned (.bool (conB La d)) ∧ Below w.heap.size w w' := by
  have hb0 : Below w.heap.size w (w.alloc (.cells #[.int .i64 d] 3)) := (Below.refl _ _).alloc (Nat.le_refl _) _
  have HC : Hid (Calls Tryd.prog 36 #[.slice Aa N ca, .func (.func 37) #[] #[.pointer (some ⟨w.heap.size, 0, none⟩)]] (w.alloc (.cells #[.int .i64 d] 3)) fun e w' => e = .returned (.bool (memB La d)) ∧ Below w.heap.size w w') := Lib.hid
    ((containsIn_any La N ca w.heap.size Aa d _ (hza.below hb0) hN (by simp) (by rw [World.cell?_alloc_at _ _ _ _ rfl]; rfl)).mono fun _ _ ⟨he, hb⟩ => ⟨he, hb0.trans (hb.mono hb0.size)⟩)
  have HB0 := Lib.hid hb0
  clear hb0 hza
  by_cases hd : 0 ≤ d ∧ d ≤ 1048576
  · have e : conB La d = memB La d := by simp [conB, hd]
    rw [e]
    clear e
    obtain ⟨h0, h1⟩ := hd
    go_enter Tryd.func16, Tryd.ntmps16
    go_wp2_with (go_at_call 36; ((with_reducible refine (HC.out).mono ?_); rintro e w' ⟨rfl, hb⟩))
    go_ret
    exact ⟨rfl, hb⟩
  · have e : conB La d = false := by simp only [conB, hd, decide_false, Bool.false_and]
    rw [e]
    clear e HC
    have hd' : d < 0 ∨ 1048576 < d := by omega
    rcases hd' with hd' | hd'
    all_goals
      go_enter Tryd.func16, Tryd.ntmps16
      go_wp2
      go_ret
      exact ⟨rfl, HB0.out⟩
end Go.Proofs.YtkiafejjcchofaaDoor
