/-
  Kinds: the tables of names and of nesting; isKind, CanContain, KindName; the reference's Nests and Name.
-/
import Derived.Test.YtmnbobcgjnickaaGreatDoorDep
namespace Go.Proofs.YtmnbobcgjnickaaGreatDoor
open Go.RowKit (wrap32 wrap64 intOf Hid Below)
open Lab Lcs
def TabN (w : World) : Prop := 0 < w.heap.size ∧ ∀ k, k < 8 → ∃ (A : Option Addr) (n c : Nat), w.cell? ⟨0, k, none⟩ = some (.slice A n c) ∧ n = (nestL k).length ∧
 (0 < n → ∃ b off, A = some ⟨b, off, none⟩ ∧ b < w.heap.size ∧ ∀ j, j < n → w.cell? ⟨b, off + j, none⟩ = some (.int .i64 ((nestL k).getD j 0)))
theorem TabN.below {w w' : World} (h : TabN w) (hb : Below w.heap.size w w') : TabN w' := by
 refine ⟨Nat.lt_of_lt_of_le h.1 hb.size, fun k hk => ?_⟩
 obtain ⟨A, n, c, h1, h2, h3⟩ := h.2 k hk
 refine ⟨A, n, c, (hb.cell (p := ⟨0, k, none⟩) h.1).trans h1, h2, fun hn => ?_⟩
 obtain ⟨b, off, e, hlt, hc⟩ := h3 hn
 exact ⟨b, off, e, Nat.lt_of_lt_of_le hlt hb.size, fun j hj => (hb.cell (p := ⟨b, off + j, none⟩) hlt).trans (hc j hj)⟩
theorem nestL_len (k : Nat) : (nestL k).length ≤ 3 := by
 unfold nestL
 split <;> decide
theorem iskind_any (z : Int) (w : World) : Calls Tryz.prog 98 #[.int .i64 z] w fun e w' => e = .returned (.bool (decide (0 ≤ z ∧ z ≤ 7))) ∧ w = w' := by
 by_cases h0 : 0 ≤ z
 · by_cases h1 : z ≤ 7
   · have HE : Hid (decide (0 ≤ z ∧ z ≤ 7) = true) := Lib.hid (decide_eq_true ⟨h0, h1⟩)
     go_enter Tryz.func98, Tryz.ntmps98
     go_wp2
     go_ret
     exact ⟨ret_bool HE.out.symm, rfl⟩
   · go_enter Tryz.func98, Tryz.ntmps98
     go_wp2
     go_ret
     exact ⟨ret_bool (decide_eq_false (by omega)).symm, rfl⟩
 · have d0 : decide (0 ≤ z) = false := decide_eq_false h0
   go_enter Tryz.func98, Tryz.ntmps98
   go_wp2
   go_ret
   exact ⟨ret_bool rfl, rfl⟩
set_option maxHeartbeats 4000000 in
set_option maxRecDepth 100000 in
theorem contain_any (p z : Int) (w : World) (hT : TabN w) : Calls Tryz.prog 72 #[.int .i64 p, .int .i64 z] w fun e w' => e = .returned (.bool (nestsB p z)) ∧ w = w' := by
 have HK := Lib.hid (iskind_any p w)
 by_cases h : 0 ≤ p ∧ p ≤ 7
 · rw [decide_eq_true h] at HK
   obtain ⟨q, rfl⟩ : ∃ q : Nat, p = q := ⟨p.toNat, by omega⟩
   have hq : q < 8 := by omega
   obtain ⟨A, n, c, hc, hn, hl⟩ := hT.2 q hq
   have HE := Lib.hid (nests_list hq z)
   have h3 := nestL_len q
   have HC : Hid (Calls Tryz.prog 99 #[.slice A n c, .int .i64 z] w fun e w' => e = .returned (.bool ((nestL q).contains z)) ∧ w = w') := Lib.hid (by
     rcases Nat.eq_zero_or_pos n with h0 | h0
     · subst h0
       have he : nestL q = [] := List.eq_nil_of_length_eq_zero hn.symm
       rw [he]
       exact (Tryz.slices_Contains_int_empty A c z w).mono fun _ _ ⟨a, b⟩ => ⟨a, b.symm⟩
     · obtain ⟨b, off, rfl, _, hcell⟩ := hl h0
       refine (Tryz.slices_Contains_int b off n c (nestL q) z w (by omega) (by omega) (fun j hj => hcell j (by omega))).mono fun _ _ ⟨a, b⟩ => ⟨?_, b.symm⟩
       rw [List.take_of_length_le (by omega)] at a
       exact a)
   obtain ⟨B, hB⟩ : ∃ B, B = (nestL q).contains z := ⟨_, rfl⟩
   rw [← hB] at HE HC
   clear hl hn h3 hT h hB
   go_enter Tryz.func72, Tryz.ntmps72
   go_wp2_with (first
     | (go_at_call 98; ((with_reducible refine (HK.out).mono ?_); rintro e w1 ⟨rfl, rfl⟩))
     | (go_at_call 99; ((with_reducible refine (HC.out).mono ?_); rintro e w2 ⟨rfl, rfl⟩)))
   go_ret
   exact ⟨ret_bool HE.out.symm, rfl⟩
 · rw [decide_eq_false h] at HK
   have HE := Lib.hid (nests_out h z)
   clear h hT
   go_enter Tryz.func72, Tryz.ntmps72
   go_wp2_with (go_at_call 98; ((with_reducible refine (HK.out).mono ?_); rintro e w1 ⟨rfl, rfl⟩))
   go_ret
   exact ⟨ret_bool HE.out.symm, rfl⟩
set_option maxHeartbeats 4000000 in
set_option maxRecDepth 100000 in
theorem nests_any (p z : Int) (w : World) : Calls Tryz.prog 35 #[.int .i64 p, .int .i64 z] w fun e w' => e = .returned (.bool (nestsB p z)) ∧ w = w' := by
 by_cases p0 : p = 0
 · subst p0
   by_cases z1 : z = 1
   · subst z1
     go_enter Tryz.func35, Tryz.ntmps35
     go_wp2
     go_ret
     exact ⟨rfl, rfl⟩
   · by_cases z2 : z = 2
     · subst z2
       go_enter Tryz.func35, Tryz.ntmps35
       go_wp2
       go_ret
       exact ⟨rfl, rfl⟩
     · have HE : Hid (nestsB 0 z = false) := Lib.hid (by simp [nestsB, z1, z2])
       have f1 : (z == 1) = false := by simpa using z1
       have f2 : (z == 2) = false := by simpa using z2
       clear z1 z2
       go_enter Tryz.func35, Tryz.ntmps35
       go_wp2
       go_ret
       exact ⟨ret_bool (by rw [HE.out]), rfl⟩
 · have q0 : (p == 0) = false := by simpa using p0
   by_cases p1 : p = 1
   · subst p1
     by_cases z2 : z = 2
     · subst z2
       go_enter Tryz.func35, Tryz.ntmps35
       go_wp2
       go_ret
       exact ⟨rfl, rfl⟩
     · have HE : Hid (nestsB 1 z = false) := Lib.hid (by simp [nestsB, z2])
       have f2 : (z == 2) = false := by simpa using z2
       clear z2
       go_enter Tryz.func35, Tryz.ntmps35
       go_wp2
       go_ret
       exact ⟨ret_bool (by rw [HE.out]), rfl⟩
   · have q1 : (p == 1) = false := by simpa using p1
     by_cases p23 : p = 2 ∨ p = 3
     · by_cases z347 : z = 3 ∨ z = 4 ∨ z = 7
       · rcases p23 with rfl | rfl <;> rcases z347 with rfl | rfl | rfl
         all_goals
           go_enter Tryz.func35, Tryz.ntmps35
           go_wp2
           go_ret
           exact ⟨rfl, rfl⟩
       · have f3 : (z == 3) = false := by rw [beq_eq_false_iff_ne]; omega
         have f4 : (z == 4) = false := by rw [beq_eq_false_iff_ne]; omega
         have f7 : (z == 7) = false := by rw [beq_eq_false_iff_ne]; omega
         have HE : Hid (nestsB p z = false) := Lib.hid (by rw [nestsB, if_neg p0, if_neg p1, if_pos p23]; exact decide_eq_false z347)
         clear z347
         rcases p23 with rfl | rfl
         all_goals
           go_enter Tryz.func35, Tryz.ntmps35
           go_wp2
           go_ret
           exact ⟨ret_bool (by rw [HE.out]), rfl⟩
     · have q2 : (p == 2) = false := by rw [beq_eq_false_iff_ne]; omega
       have q3 : (p == 3) = false := by rw [beq_eq_false_iff_ne]; omega
       by_cases p4 : p = 4
       · subst p4
         by_cases z5 : z = 5
         · subst z5
           go_enter Tryz.func35, Tryz.ntmps35
           go_wp2
           go_ret
           exact ⟨rfl, rfl⟩
         · have HE : Hid (nestsB 4 z = false) := Lib.hid (by simp [nestsB, z5])
           have f2 : (z == 5) = false := by simpa using z5
           clear z5
           go_enter Tryz.func35, Tryz.ntmps35
           go_wp2
           go_ret
           exact ⟨ret_bool (by rw [HE.out]), rfl⟩
       · have q4 : (p == 4) = false := by simpa using p4
         by_cases p5 : p = 5
         · subst p5
           by_cases z6 : z = 6
           · subst z6
             go_enter Tryz.func35, Tryz.ntmps35
             go_wp2
             go_ret
             exact ⟨rfl, rfl⟩
           · have HE : Hid (nestsB 5 z = false) := Lib.hid (by simp [nestsB, z6])
             have f2 : (z == 6) = false := by simpa using z6
             clear z6
             go_enter Tryz.func35, Tryz.ntmps35
             go_wp2
             go_ret
             exact ⟨ret_bool (by rw [HE.out]), rfl⟩
         · have q5 : (p == 5) = false := by simpa using p5
           have HE : Hid (nestsB p z = false) := Lib.hid (by rw [nestsB, if_neg p0, if_neg p1, if_neg p23, if_neg p4, if_neg p5])
           clear p0 p1 p23 p4 p5
           go_enter Tryz.func35, Tryz.ntmps35
           go_wp2
           go_ret
           exact ⟨ret_bool (by rw [HE.out]), rfl⟩
end Go.Proofs.YtmnbobcgjnickaaGreatDoor
