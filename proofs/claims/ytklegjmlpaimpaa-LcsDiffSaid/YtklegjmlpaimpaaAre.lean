/-
  The contract of areEdits.
-/
import Derived.Test.YtklegjmlpaimpaaOcc
namespace Go.Proofs.Ytklegjmlpaimpaa
open Go.RowKit (wrap32 wrap64 intOf Hid Below)
open Lcs Rise

set_option maxHeartbeats 8000000 in
set_option maxRecDepth 100000 in
theorem are_any (La : List Str) (L : List Ed) (n m c d : Nat) (A D : Option Addr) (w : World) (ha : Sq w A n c La) (hl : Eds w D m d L) (hn : n ≤ 1000) (hm : m ≤ 1000) (hs : Short L) (hnum : Nums L) :
    Calls Try.prog 32 #[.slice A n c, .slice D m d] w fun e w' => e = .returned (.bool (apl La 0 true L).isSome) ∧ Below w.heap.size w w' := by
  have HA := Lib.hid ha
  have HL := Lib.hid hl
  have HS := Lib.hid hs
  have HNu := Lib.hid hnum
  have HLl := Lib.hid hl.1
  have HLa := Lib.hid ha.len
  clear ha hl hs hnum
  go_enter Try.func32, Try.ntmps32
  go_wp2
  go_loopw [5, 10] (fun z i wr => ∃ (k i0 : Nat) (E : Int), k ≤ m ∧ i0 ≤ n ∧ i = .int .i64 k ∧ z = .int .i64 E ∧ (k = 0 → i0 = 0 ∧ E = -1) ∧ (0 < k → E = i0) ∧ (apl La 0 true L).isSome = (apl La i0 (decide (k = 0)) (L.drop k)).isSome ∧ Below w.heap.size w wr) (fun _ i _ => m - (intOf i).toNat)
  case atStart => exact ⟨0, 0, -1, Nat.zero_le _, Nat.zero_le _, rfl, rfl, fun _ => ⟨rfl, rfl⟩, fun h => absurd h (Nat.lt_irrefl _), by rw [List.drop_zero]; rfl, Below.refl _ _⟩
  case round =>
    obtain ⟨k, i0, E, hk, hi0, rfl, rfl, hk0, hk1, hd, hbr⟩ := hrel
    have HD := Lib.hid hd
    have hbz := hbr.size
    have HK0 := Lib.hid hk0
    have HK1 := Lib.hid hk1
    clear hd hk0 hk1
    by_cases hlt : k < m
    · obtain ⟨b, off, Ao, An, no, co, nn, cn, rfl, hblt, e0, e1, e2, so, sn⟩ := HL.out.at_ hlt
      have e0 := (hbr.cell (p := ⟨b, off + k * 3, none⟩) hblt).trans e0
      have e1 := (hbr.cell (p := ⟨b, off + k * 3 + 1, none⟩) hblt).trans e1
      have e2 := (hbr.cell (p := ⟨b, off + k * 3 + 2, none⟩) hblt).trans e2
      have hsh := HS.out k (by have := HLl.out; omega)
      obtain ⟨p1, p2⟩ := HNu.out k (by have := HLl.out; omega)
      have hdr := ed_drop (L := L) (k := k) (by have := HLl.out; omega)
      obtain ⟨F, hF⟩ : ∃ F, F = ed L k := ⟨_, rfl⟩
      rw [← hF] at e0 so sn hsh hdr p1 p2
      obtain ⟨P, hP⟩ : ∃ P, P = F.pos := ⟨_, rfl⟩
      rw [← hP] at e0 p1 p2
      have hno : no ≤ 1000 := by have := so.len; omega
      have hnn : nn ≤ 1000 := by have := sn.len; omega
      have HSo := Lib.hid so
      have HDr := Lib.hid hdr
      have HPe := Lib.hid hP
      have HNo : Hid (F.old.length = no) := Lib.hid so.len
      have HNn : Hid (F.new.length = nn) := Lib.hid sn.len
      clear hF hP so sn hdr hsh
      have n0 : (wr.alloc (.cells #[.int .i64 P, .slice Ao no co, .slice An nn cn] 39)).cell? ⟨wr.heap.size, 0, none⟩ = some (.int .i64 P) := by rw [World.cell?_alloc_at _ _ _ _ rfl]; rfl
      have n1 : (wr.alloc (.cells #[.int .i64 P, .slice Ao no co, .slice An nn cn] 39)).cell? ⟨wr.heap.size, 1, none⟩ = some (.slice Ao no co) := by rw [World.cell?_alloc_at _ _ _ _ rfl]; rfl
      have n2 : (wr.alloc (.cells #[.int .i64 P, .slice Ao no co, .slice An nn cn] 39)).cell? ⟨wr.heap.size, 2, none⟩ = some (.slice An nn cn) := by rw [World.cell?_alloc_at _ _ _ _ rfl]; rfl
      have hbWX : Below wr.heap.size wr (wr.alloc (.cells #[.int .i64 P, .slice Ao no co, .slice An nn cn] 39)) := alloc_below wr _
      have hbX : Below w.heap.size w (wr.alloc (.cells #[.int .i64 P, .slice Ao no co, .slice An nn cn] 39)) := hbr.trans (hbWX.mono hbz)
      have hNX : wr.heap.size < (wr.alloc (.cells #[.int .i64 P, .slice Ao no co, .slice An nn cn] 39)).heap.size := by simp
      have HBad : Hid (¬ Fit La i0 (decide (k = 0)) F → (apl La 0 true L).isSome = false) := Lib.hid fun h => by
        rw [HD.out, HDr.out, apl_bad h]
        rfl
      have HGood : Hid (Fit La i0 (decide (k = 0)) F → (apl La 0 true L).isSome = (apl La (P.toNat + no) false (L.drop (k + 1))).isSome) := Lib.hid fun h => by
        rw [HD.out, HDr.out, apl_step h, ← HPe.out, HNo.out, Option.isSome_map]
      have HFit : Hid (Fit La i0 (decide (k = 0)) F ↔ ¬ (no = 0 ∧ nn = 0) ∧ (i0 : Int) ≤ P ∧ (k = 0 ∨ P ≠ i0) ∧ P + no ≤ n ∧ (La.drop P.toNat).take no = F.old) := Lib.hid (by
        unfold Fit
        rw [HNo.out, ← HPe.out, HLa.out]
        rw [show (F.old = [] ∧ F.new = []) ↔ (no = 0 ∧ nn = 0) by rw [← HNo.out, ← HNn.out, List.length_eq_zero_iff, List.length_eq_zero_iff]]
        simp)
      have hE : -1 ≤ E ∧ E ≤ n := by
        rcases Nat.eq_zero_or_pos k with h | h
        · have := HK0.out h; omega
        · have := HK1.out h; omega
      obtain ⟨hE1, hE2⟩ := hE
      have HX := Lib.hid hbX
      have HN1 := Lib.hid n1
      have HN2 := Lib.hid n2
      have HN0 := Lib.hid n0
      by_cases h1 : P ≤ E
      · have HB := Lib.hid (HBad.out (fun h => by
          obtain ⟨_, f2, f3, _, _⟩ := HFit.out.1 h
          rcases Nat.eq_zero_or_pos k with h | h
          · have := HK0.out h; omega
          · have := HK1.out h
            rcases f3 with f3 | f3
            · omega
            · omega))
        have d1 : decide (P ≤ E) = true := decide_eq_true h1
        go_wp2
        go_ret
        exact ⟨by rw [HB.out]; rfl, HX.out⟩
      · have d1 : decide (P ≤ E) = false := decide_eq_false h1
        have hp0 : 0 ≤ P := by omega
        have HC := Lib.hid (occurs_any La F.old n c no co P A Ao _ (HA.out.below hbX) (HSo.out.below hbX) hn hno hp0 p2)
        obtain ⟨B, hB⟩ : ∃ B, B = decide (P + no ≤ n ∧ (La.drop P.toNat).take no = F.old) := ⟨_, rfl⟩
        rw [← hB] at HC
        have HBe := Lib.hid hB
        clear hB hbX hbWX
        cases B with
        | false =>
          have HB := Lib.hid (HBad.out (fun h => of_decide_eq_false HBe.out.symm (HFit.out.1 h).2.2.2))
          go_wp2_with (go_at_call 36; ((with_reducible refine (HC.out).mono ?_); rintro e w2 ⟨rfl, hb2⟩))
          go_ret
          exact ⟨by rw [HB.out]; rfl, HX.out.trans (hb2.mono HX.out.size)⟩
        | true =>
          have ho := of_decide_eq_true HBe.out.symm
          have hpn := ho.1
          have HO := Lib.hid ho.2
          clear ho
          by_cases hz : no = 0 ∧ nn = 0
          · have HB := Lib.hid (HBad.out (fun h => (HFit.out.1 h).1 hz))
            obtain ⟨rfl, rfl⟩ := hz
            have e3 : (((0 : Nat) : Int) == 0) = true := rfl
            go_wp2_with (go_at_call 36; ((with_reducible refine (HC.out).mono ?_); rintro e w2 ⟨rfl, hb2⟩; have x0 := (hb2.cell (p := ⟨wr.heap.size, 0, none⟩) hNX).trans HN0.out; have x1 := (hb2.cell (p := ⟨wr.heap.size, 1, none⟩) hNX).trans HN1.out; have x2 := (hb2.cell (p := ⟨wr.heap.size, 2, none⟩) hNX).trans HN2.out))
            go_ret
            exact ⟨by rw [HB.out]; rfl, HX.out.trans (hb2.mono HX.out.size)⟩
          · have HG := Lib.hid (HGood.out (HFit.out.2 ⟨hz, by
              rcases Nat.eq_zero_or_pos k with h | h
              · have := HK0.out h; omega
              · have := HK1.out h; omega, by
              rcases Nat.eq_zero_or_pos k with h | h
              · exact Or.inl h
              · have := HK1.out h; exact Or.inr (by omega), hpn, HO.out⟩))
            obtain ⟨p, rfl⟩ : ∃ p : Nat, P = p := ⟨P.toNat, by omega⟩
            have g1 : IntKind.i64.wrap ((p : Int) + (no : Int)) = (p : Int) + no := by rw [IntKind.wrap_i64]; omega
            by_cases hn0 : no = 0
            · subst hn0
              have e3 : (((0 : Nat) : Int) == 0) = true := rfl
              have g3 : IntKind.i64.wrap (p : Int) = p := by rw [IntKind.wrap_i64]; omega
              have e4 : ((nn : Int) == 0) = false := by rw [beq_eq_false_iff_ne]; omega
              have f4 : ¬ nn = 0 := by omega
              clear hz
              go_wp2_with (go_at_call 36; ((with_reducible refine (HC.out).mono ?_); rintro e w2 ⟨rfl, hb2⟩; have x0 := (hb2.cell (p := ⟨wr.heap.size, 0, none⟩) hNX).trans HN0.out; have x1 := (hb2.cell (p := ⟨wr.heap.size, 1, none⟩) hNX).trans HN1.out; have x2 := (hb2.cell (p := ⟨wr.heap.size, 2, none⟩) hNX).trans HN2.out))
              go_roundw
              case rel => exact ⟨k + 1, p, (p : Int), by omega, by omega, by go_num, rfl, fun h => absurd h (by omega), fun _ => rfl, by rw [HG.out, Int.toNat_natCast, Nat.add_zero, decide_eq_false (by omega : ¬ k + 1 = 0)], HX.out.trans (hb2.mono HX.out.size)⟩
              case measure => simp [intOf]; omega
            · have e3 : ((no : Int) == 0) = false := by rw [beq_eq_false_iff_ne]; omega
              clear hz
              go_wp2_with (go_at_call 36; ((with_reducible refine (HC.out).mono ?_); rintro e w2 ⟨rfl, hb2⟩; have x0 := (hb2.cell (p := ⟨wr.heap.size, 0, none⟩) hNX).trans HN0.out; have x1 := (hb2.cell (p := ⟨wr.heap.size, 1, none⟩) hNX).trans HN1.out; have x2 := (hb2.cell (p := ⟨wr.heap.size, 2, none⟩) hNX).trans HN2.out))
              go_roundw
              case rel => exact ⟨k + 1, p + no, (p : Int) + no, by omega, by omega, by go_num, rfl, fun h => absurd h (by omega), fun _ => by omega, by rw [HG.out, Int.toNat_natCast, decide_eq_false (by omega : ¬ k + 1 = 0)], HX.out.trans (hb2.mono HX.out.size)⟩
              case measure => simp [intOf]; omega
    · obtain rfl : k = m := by omega
      have HB : Hid ((apl La 0 true L).isSome = true) := Lib.hid (by
        rw [HD.out, List.drop_of_length_le (by have := HLl.out; omega)]
        rfl)
      go_wp2
      go_ret
      exact ⟨by rw [HB.out]; rfl, hbr⟩
end Go.Proofs.Ytklegjmlpaimpaa
