/-
  Kinds: the tables of names and of nesting; isKind, CanContain, KindName; the reference's Nests and Name.
-/
import Derived.Test.YtmnbobcgjnickaaDoorDep
namespace Go.Proofs.YtmnbobcgjnickaaDoor
open Go.RowKit (wrap32 wrap64 intOf Hid Below)
open Lab Lcs
def TabN (w : World) : Prop := 0 < w.heap.size ∧ ∀ k, k < 8 → ∃ (A : Option Addr) (n c : Nat), w.cell? ⟨0, k, none⟩ = some (.slice A n c) ∧ n = (nestL k).length ∧
 (0 < n → ∃ b off, A = some ⟨b, off, none⟩ ∧ b < w.heap.size ∧ ∀ j, j < n → w.cell? ⟨b, off + j, none⟩ = some (.int .i64 ((nestL k).getD j 0)))
theorem TabN.below {w w' : World} (h : TabN w) (hb : Below w.heap.size w w') : TabN w' := by
 refine ⟨Nat.lt_of_lt_of_le h.1 hb.size, fun k hk => ?_⟩
 obtain ⟨A, n, c, h1, h2, h3⟩ := h.2 k hk
 refine ⟨A, n, c, (hb.cell (p := ⟨0, k, none⟩) h.1).trans h1, h2, fun hn => ?_⟩
 obtain ⟨b, off, e, hlt, hc⟩ := h3 hn
 exact ⟨b, off, e, Nat.lt_of_lt_of_le hlt hb.size, fun j hj => (hb.cell (p := ⟨b, off + j, none⟩) hlt).trans (hc j hj)⟩
theorem nestL_len (k : Nat) : (nestL k).length ≤ 3 := by
 unfold nestL
 split <;> decide
theorem iskind_any (z : Int) (w : World) : Calls Tryd.prog 66 #[.int .i64 z] w fun e w' => e = .returned (.bool (decide (0 ≤ z ∧ z ≤ 7))) ∧ w = w' := by
 by_cases h0 : 0 ≤ z
 · by_cases h1 : z ≤ 7
   · have HE : Hid (decide (0 ≤ z ∧ z ≤ 7) = true) := Lib.hid (decide_eq_true ⟨h0, h1⟩)
     go_enter Tryd.func66, Tryd.ntmps66
     go_wp2
     go_ret
     exact ⟨ret_bool HE.out.symm, rfl⟩
   · go_enter Tryd.func66, Tryd.ntmps66
     go_wp2
     go_ret
     exact ⟨ret_bool (decide_eq_false (by omega)).symm, rfl⟩
 · have d0 : decide (0 ≤ z) = false := decide_eq_false h0
   go_enter Tryd.func66, Tryd.ntmps66
   go_wp2
   go_ret
   exact ⟨ret_bool rfl, rfl⟩
set_option maxHeartbeats 4000000 in
set_option maxRecDepth 100000 in
theorem contain_any (p z : Int) (w : World) (hT : TabN w) : Calls Tryd.prog 43 #[.int .i64 p, .int .i64 z] w fun e w' => e = .returned (.bool (nestsB p z)) ∧ w = w' := by
 have HK := Lib.hid (iskind_any p w)
 by_cases h : 0 ≤ p ∧ p ≤ 7
 · rw [decide_eq_true h] at HK
   obtain ⟨q, rfl⟩ : ∃ q : Nat, p = q := ⟨p.toNat, by omega⟩
   have hq : q < 8 := by omega
   obtain ⟨A, n, c, hc, hn, hl⟩ := hT.2 q hq
   have HE := Lib.hid (nests_list hq z)
   have h3 := nestL_len q
   have HC : Hid (Calls Tryd.prog 67 #[.slice A n c, .int .i64 z] w fun e w' => e = .returned (.bool ((nestL q).contains z)) ∧ w = w') := Lib.hid (by
     rcases Nat.eq_zero_or_pos n with h0 | h0
     · subst h0
       have he : nestL q = [] := List.eq_nil_of_length_eq_zero hn.symm
       rw [he]
       exact (Tryd.slices_Contains_int_empty A c z w).mono fun _ _ ⟨a, b⟩ => ⟨a, b.symm⟩
     · obtain ⟨b, off, rfl, _, hcell⟩ := hl h0
       refine (Tryd.slices_Contains_int b off n c (nestL q) z w (by omega) (by omega) (fun j hj => hcell j (by omega))).mono fun _ _ ⟨a, b⟩ => ⟨?_, b.symm⟩
       rw [List.take_of_length_le (by omega)] at a
       exact a)
   obtain ⟨B, hB⟩ : ∃ B, B = (nestL q).contains z := ⟨_, rfl⟩
   rw [← hB] at HE HC
   clear hl hn h3 hT h hB
   go_enter Tryd.func43, Tryd.ntmps43
   go_wp2_with (first
     | (go_at_call 66; ((with_reducible refine (HK.out).mono ?_); rintro e w1 ⟨rfl, rfl⟩))
     | (go_at_call 67; ((with_reducible refine (HC.out).mono ?_); rintro e w2 ⟨rfl, rfl⟩)))
   go_ret
   exact ⟨ret_bool HE.out.symm, rfl⟩
 · rw [decide_eq_false h] at HK
   have HE := Lib.hid (nests_out h z)
   clear h hT
   go_enter Tryd.func43, Tryd.ntmps43
   go_wp2_with (go_at_call 66; ((with_reducible refine (HK.out).mono ?_); rintro e w1 ⟨rfl, rfl⟩))
   go_ret
   exact ⟨ret_bool HE.out.symm, rfl⟩
end Go.Proofs.YtmnbobcgjnickaaDoor
