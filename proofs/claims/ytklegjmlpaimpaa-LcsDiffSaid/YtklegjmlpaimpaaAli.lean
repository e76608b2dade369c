/-
  The contract of the reference's Alike.
-/
import Derived.Test.YtklegjmlpaimpaaEdm
namespace Go.Proofs.Ytklegjmlpaimpaa
open Go.RowKit (wrap32 wrap64 intOf Hid Below)
open Lcs Rise

/-- The edits are the same. -/
theorem ed_ext {L M : List Ed} (hl : L.length = M.length) (h : ∀ k, k < L.length → (ed L k).pos = (ed M k).pos ∧ (ed L k).old = (ed M k).old ∧ (ed L k).new = (ed M k).new) : L = M := by
  refine List.ext_getElem hl fun k h1 h2 => ?_
  obtain ⟨x1, x2, x3⟩ := h k h1
  unfold ed at x1 x2 x3
  rw [List.getD, List.getD, List.getElem?_eq_getElem h1, List.getElem?_eq_getElem h2] at x1 x2 x3
  simp only [Option.getD_some] at x1 x2 x3
  cases hL : L[k]
  cases hM : M[k]
  rw [hL, hM] at x1 x2 x3
  simp only at x1 x2 x3
  rw [x1, x2, x3]

set_option maxHeartbeats 8000000 in
set_option maxRecDepth 100000 in
/-- Alike, of the same edits. -/
theorem alike_any (L : List Ed) (n c d : Nat) (A D : Option Addr) (w : World) (ha : Eds w A n c L) (hb : Eds w D n d L) :
    Calls Try.prog 17 #[.slice A n c, .slice D n d] w fun e w' => e = .returned (.bool true) ∧ Below w.heap.size w w' := by
  have HA := Lib.hid ha
  have HB := Lib.hid hb
  have hn63 : n ≤ 9223372036854775807 := by have := ha.2.1; have := ha.2.2.1; omega
  clear ha hb
  go_enter Try.func17, Try.ntmps17
  go_wp2
  go_loopw [5] (fun i wr => ∃ k : Nat, k ≤ n ∧ i = .int .i64 k ∧ Below w.heap.size w wr) (fun i _ => n - (intOf i).toNat)
  case atStart => exact ⟨0, Nat.zero_le _, rfl, Below.refl _ _⟩
  case round =>
    obtain ⟨k, hk, rfl, hbr⟩ := hrel
    have hbz := hbr.size
    by_cases hlt : k < n
    · obtain ⟨b, off, Ao, An, no, co, nn, cn, rfl, hblt, e0, e1, e2, so, sn⟩ := HA.out.at_ hlt
      obtain ⟨b', off', Ao', An', no', co', nn', cn', rfl, hblt', e0', e1', e2', so', sn'⟩ := HB.out.at_ hlt
      have HS : Hid (∀ w', Below wr.heap.size wr w' → w'.cell? ⟨b, off + k * 3, none⟩ = some (.int .i64 (ed L k).pos) ∧ w'.cell? ⟨b, off + k * 3 + 1, none⟩ = some (.slice Ao no co) ∧ w'.cell? ⟨b, off + k * 3 + 2, none⟩ = some (.slice An nn cn) ∧ w'.cell? ⟨b', off' + k * 3, none⟩ = some (.int .i64 (ed L k).pos) ∧ w'.cell? ⟨b', off' + k * 3 + 1, none⟩ = some (.slice Ao' no' co') ∧ w'.cell? ⟨b', off' + k * 3 + 2, none⟩ = some (.slice An' nn' cn')) := Lib.hid fun w' h => by
        have hw := hbr.trans (h.mono hbz)
        exact ⟨(hw.cell (p := ⟨b, off + k * 3, none⟩) hblt).trans e0, (hw.cell (p := ⟨b, off + k * 3 + 1, none⟩) hblt).trans e1, (hw.cell (p := ⟨b, off + k * 3 + 2, none⟩) hblt).trans e2, (hw.cell (p := ⟨b', off' + k * 3, none⟩) hblt').trans e0', (hw.cell (p := ⟨b', off' + k * 3 + 1, none⟩) hblt').trans e1', (hw.cell (p := ⟨b', off' + k * 3 + 2, none⟩) hblt').trans e2'⟩
      have HC1 : Hid (∀ w', Below wr.heap.size wr w' → Calls Try.prog 19 #[.slice Ao no co, .slice Ao' no' co'] w' fun e w'' => e = .returned (.bool true) ∧ ∃ q, w'' = w'.drewN q) := Lib.hid fun w' h => by
        have hw := hbr.trans (h.mono hbz)
        have hs := (so.below hw)
        have hs' := (so'.below hw)
        have hc := same_any _ _ w'.heap.size no no' co co' Ao Ao' w' hs.1.1 hs'.1.1 (by have := hs.1.2.2.2.1; omega) (by have := hs'.1.2.2.2.1; omega) (Nat.le_refl _)
        rwa [decide_eq_true rfl] at hc
      have HC2 : Hid (∀ w', Below wr.heap.size wr w' → Calls Try.prog 19 #[.slice An nn cn, .slice An' nn' cn'] w' fun e w'' => e = .returned (.bool true) ∧ ∃ q, w'' = w'.drewN q) := Lib.hid fun w' h => by
        have hw := hbr.trans (h.mono hbz)
        have hs := (sn.below hw)
        have hs' := (sn'.below hw)
        have hc := same_any _ _ w'.heap.size nn nn' cn cn' An An' w' hs.1.1 hs'.1.1 (by have := hs.1.2.2.2.1; omega) (by have := hs'.1.2.2.2.1; omega) (Nat.le_refl _)
        rwa [decide_eq_true rfl] at hc
      obtain ⟨x0, x1, x2, x3, x4, x5⟩ := HS.out wr (Below.refl _ _)
      generalize (ed L k).pos = P at *
      clear e0 e1 e2 e0' e1' e2' so sn so' sn'
      have HDr : Hid (∀ q, Below wr.heap.size wr (wr.drewN q)) := Lib.hid fun q => below_drawn (Below.refl _ _) q
      go_wp2
      go_quiet (first | with_reducible exact Calls.quiet_of (v := .bool true) (HC1.out _ (HDr.out _)) | with_reducible exact Calls.quiet_of (v := .bool true) (HC2.out _ (HDr.out _)))
      go_wp2
      go_roundw
      case rel => exact ⟨k + 1, by omega, by go_num, below_drawn hbr _⟩
      case measure => simp [intOf]; omega
    · go_wp2
      go_ret
      exact ⟨rfl, hbr⟩
end Go.Proofs.Ytklegjmlpaimpaa
