/-
  The contract of the reference's Next.
-/
import Derived.Test.YtbjdfghakhplnaaDoorWg
namespace Go.Proofs.YtbjdfghakhplnaaDoor
open Go.RowKit (wrap32 wrap64 intOf Hid Below)
open Lab

theorem conv_drew (w : World) (x : Int) (t : TypeId) :
    Sem.run Tryd.prog (convert 51 9 (.slice (some ⟨w.heap.size, 0, none⟩) 1 1)) (w.alloc (.cells #[.int .u8 x] t)).drew = .ok (.string (one x)) (w.alloc (.cells #[.int .u8 x] t)).drew := conv_new w.drew x t
/-- What the reference's Next hands back of a text. -/
def rnV (l : Bs) : Value := match nextL l with
  | some t => .string (mk t)
  | none => .string ⟨#[]⟩
theorem rn_no {l : Bs} (h : mayL l = false) : rnV l = .string ⟨#[]⟩ := by
  have : nextL l = none := by unfold nextL; rw [h]; rfl
  unfold rnV
  rw [this]
theorem rn_yes {l : Bs} (h : mayL l = true) : rnV l = (match nextN (splitL l).1 (splitL l).2 with
  | some p => .string (mk (txt p.1 p.2))
  | none => .string ⟨#[]⟩) := by
  have : nextL l = (nextN (splitL l).1 (splitL l).2).map fun p => txt p.1 p.2 := by unfold nextL; rw [if_pos h]
  unfold rnV
  rw [this]
  cases nextN (splitL l).1 (splitL l).2 <;> rfl
def lenOf : Value → Nat
  | .string D => D.size
  | _ => 0

set_option maxHeartbeats 4000000 in
set_option maxRecDepth 100000 in
theorem refnext_any (s : ByteArray) (w : World) (hs : s.size ≤ 1000000) :
    Calls Tryd.prog 18 #[.string s] w fun e w' => e = .returned (rnV s.data.toList) ∧ Below w.heap.size w w' := by
  have HM := Lib.hid (may_any s w hs)
  cases hm : mayL s.data.toList with
  | false =>
    rw [hm] at HM
    have HV := Lib.hid (rn_no hm)
    clear hm
    go_enter Tryd.func18, Tryd.ntmps18
    go_wp2_with (go_at_call 14; ((with_reducible refine (HM.out).mono ?_); rintro e w1 ⟨rfl, rfl⟩))
    go_ret
    exact ⟨by rw [HV.out]; rfl, Below.refl _ _⟩
  | true =>
    rw [hm] at HM
    have hsp : Calls Tryd.prog 12 #[.string s] w fun e w' => e = .returned (spV s.data.toList) ∧ Below w.heap.size w w' := (refsplit_any s w hs).mono fun _ _ ⟨he, hq⟩ => ⟨he, drew_below hq⟩
    have hv := rn_yes hm
    have ho := (may_ok hm).1
    unfold spV at hsp
    obtain ⟨n, hn⟩ : ∃ n, n = (splitL s.data.toList).1 := ⟨_, rfl⟩
    obtain ⟨c, hc⟩ : ∃ c, c = (splitL s.data.toList).2 := ⟨_, rfl⟩
    rw [← hn, ← hc] at hsp hv ho
    obtain ⟨C, hC⟩ : ∃ C, C = mk c := ⟨_, rfl⟩
    rw [← hC] at hsp
    have HSp := Lib.hid hsp
    have hCl : C.data.toList = c := by rw [hC]; rfl
    have hCs : C.size = c.length := by rw [hC]; exact mk_size c
    have hn1 := ho.1
    have hn2 := ho.2.1
    have hc3 := ho.2.2.1
    have HO := Lib.hid ho
    have HV := Lib.hid hv
    have HCl := Lib.hid hCl
    have hC3 : C.size ≤ 3 := by omega
    have HCs := Lib.hid hCs
    clear hv ho hn hc hC hCl hm hCs hsp
    go_enter Tryd.func18, Tryd.ntmps18
    go_wp2_with (first
      | (go_at_call 14; ((with_reducible refine (HM.out).mono ?_); rintro e w1 ⟨rfl, rfl⟩))
      | (go_at_call 12; ((with_reducible refine (HSp.out).mono ?_); rintro e w1 ⟨rfl, hb1⟩)))
    go_loop [4] (fun v => ∃ D : ByteArray, v = .string D ∧ D.size ≤ 3 ∧ D.data.toList = c.take D.size ∧ kz c c.length = kz c D.size) (fun v => lenOf v)
    case atStart => exact ⟨C, rfl, hC3, by rw [HCl.out, List.take_of_length_le (by rw [HCs.out]; exact Nat.le_refl _)], by rw [HCs.out]⟩
    case round =>
      obtain ⟨D, rfl, hD3, hDl, hkz⟩ := hrel
      have HDl := Lib.hid hDl
      have HKz := Lib.hid hkz
      have hDc : D.size ≤ c.length := by
        have h1 := congrArg List.length hDl
        rw [size_list, List.length_take] at h1
        omega
      clear hkz hDl
      rcases Nat.eq_zero_or_pos D.size with h0 | h0
      · have HK0 : Hid (kz c c.length = 0) := Lib.hid (by rw [HKz.out, h0]; rfl)
        by_cases h9 : n = 9999
        · have HN : Hid (nextN n c = none) := Lib.hid (by unfold nextN; rw [HK0.out, if_neg (by omega), if_pos h9])
          have e9 : ((n : Int) == 9999) = true := by rw [beq_iff_eq]; omega
          have HVN : Hid (rnV s.data.toList = .string ⟨#[]⟩) := Lib.hid (by rw [HV.out, HN.out])
          clear h9
          go_wp2
          go_ret
          exact ⟨by rw [HVN.out]; rfl, hb1⟩
        · have HN : Hid (nextN n c = some (n + 1, [])) := Lib.hid (by unfold nextN; rw [HK0.out, if_neg (by omega), if_neg h9])
          have e9 : ((n : Int) == 9999) = false := by rw [beq_eq_false_iff_ne]; omega
          have HTx : Hid (Calls Tryd.prog 36 #[.int .i64 ((n : Int) + 1), .string ⟨#[]⟩] w1 fun e w' => e = .returned (.string (mk (txt (n + 1) []))) ∧ Below w1.heap.size w1 w') := Lib.hid (by
            have h := text_any (n + 1) ⟨#[]⟩ w1 (by omega) (by decide) (by omega)
            rwa [Int.natCast_add] at h)
          have HVN : Hid (rnV s.data.toList = .string (mk (txt (n + 1) []))) := Lib.hid (by rw [HV.out, HN.out])
          clear h9
          go_wp2_with (go_at_call 36; ((with_reducible refine (HTx.out).mono ?_); rintro e w2 ⟨rfl, hb2⟩))
          go_ret
          exact ⟨by rw [HVN.out]; rfl, hb1.trans (hb2.mono hb1.size)⟩
      · have hj : D.size - 1 < D.size := by omega
        have HG := Lib.hid (getD_at D (D.size - 1) hj)
        have hcj : c.getD (D.size - 1) 0 = D[D.size - 1]'hj := by
          rw [← HG.out, HDl.out]
          simp [List.getD, hj]
        by_cases hz : D[D.size - 1]'hj = 90
        · have ez : (((D[D.size - 1]'hj).toNat : Int) == 90) = true := by rw [hz]; decide
          have HD : Hid (kz c D.size = kz c (D.size - 1)) := Lib.hid (kz_down h0 (by rw [hcj, hz]))
          obtain ⟨E, hE⟩ : ∃ E, E = D.extract 0 (D.size - 1) := ⟨_, rfl⟩
          have hEl : E.data.toList = c.take (D.size - 1) := by rw [hE, ext_take, HDl.out, List.take_take, Nat.min_eq_left (by omega)]
          have hEs : E.size = D.size - 1 := by rw [← size_list, hEl, List.length_take]; omega
          have x8 : D.extract 0 (D.size - 1) = E := hE.symm
          have HEl := Lib.hid hEl
          have HEs := Lib.hid hEs
          clear hz hE hEl hEs hcj
          go_wp2
          go_round
          case rel => exact ⟨E, rfl, by rw [HEs.out]; omega, by rw [HEl.out, HEs.out], by rw [HKz.out, HD.out, HEs.out]⟩
          case measure => simp only [lenOf]; rw [HEs.out]; omega
        · have ez : (((D[D.size - 1]'hj).toNat : Int) == 90) = false := by
            rw [beq_eq_false_iff_ne]
            intro hh
            apply hz
            apply UInt8.toNat_inj.1
            have : (90 : UInt8).toNat = 90 := rfl
            omega
          have HK : Hid (kz c c.length = D.size) := Lib.hid (by rw [HKz.out]; exact kz_here h0 (by rw [hcj]; exact hz))
          have hcap := cap_at HO.out.2.2.2 (k := D.size - 1) (by omega)
          rw [hcj] at hcap
          have hup := up_nat hcap hz
          have HN : Hid (nextN n c = some (n, c.take (D.size - 1) ++ [up (D[D.size - 1]'hj)])) := Lib.hid (by unfold nextN; rw [HK.out, if_pos h0, hcj])
          have hb90 : ((D[D.size - 1]'hj).toNat : Int) ≤ 89 ∧ 65 ≤ ((D[D.size - 1]'hj).toNat : Int) := by
            unfold isCap at hcap
            rw [decide_eq_true_eq] at hcap
            have h1 : (D[D.size - 1]'hj).toNat ≠ 90 := fun he => hz (UInt8.toNat_inj.1 he)
            omega
          obtain ⟨hb89, hb65⟩ := hb90
          have x3 : IntKind.i64.wrap ((D.size : Int) - 1) = (D.size : Int) - 1 := by rw [IntKind.wrap_i64]; omega
          have x4 : IntKind.u8.wrap (((D[D.size - 1]'hj).toNat : Int) + 1) = ((D[D.size - 1]'hj).toNat : Int) + 1 := by rw [IntKind.wrap_u8]; omega
          obtain ⟨PR, hPR⟩ : ∃ PR, PR = D.extract 0 (D.size - 1) := ⟨_, rfl⟩
          have hPRl : PR.data.toList = c.take (D.size - 1) := by rw [hPR, ext_take, HDl.out, List.take_take, Nat.min_eq_left (by omega)]
          have x7 : PR.size ≤ 3 := by rw [← size_list, hPRl, List.length_take]; omega
          have x8 : D.extract 0 (D.size - 1) = PR := hPR.symm
          obtain ⟨ON, hON⟩ : ∃ ON, ON = one (((D[D.size - 1]'hj).toNat : Int) + 1) := ⟨_, rfl⟩
          have hONl : ON.data.toList = [up (D[D.size - 1]'hj)] := by
            rw [hON, one_list]
            congr 1
          have hONs : ON.size = 1 := by rw [← size_list, hONl]; rfl
          have x9 : one (((D[D.size - 1]'hj).toNat : Int) + 1) = ON := hON.symm
          have cat1 := cat_run PR ON (by omega)
          have hcv := fun W => conv_new W (((D[D.size - 1]'hj).toNat : Int) + 1) 5
          have hcv2 := fun W => conv_drew W (((D[D.size - 1]'hj).toNat : Int) + 1) 5
          rw [x9] at hcv hcv2
          have hPOs : (PR ++ ON).size ≤ 100 := by rw [ByteArray.size_append]; omega
          have hPOl : (PR ++ ON).data.toList = c.take (D.size - 1) ++ [up (D[D.size - 1]'hj)] := by rw [cat_list, hPRl, hONl]
          have HTx : Hid (∀ W, Below w1.heap.size w1 W → Calls Tryd.prog 36 #[.int .i64 (n : Int), .string (PR ++ ON)] W fun e w' => e = .returned (rnV s.data.toList) ∧ Below w1.heap.size w1 w') := Lib.hid fun W h => by
            have hvn : rnV s.data.toList = .string (mk (txt n (c.take (D.size - 1) ++ [up (D[D.size - 1]'hj)]))) := by rw [HV.out, HN.out]
            rw [hvn, ← hPOl]
            exact (text_any n (PR ++ ON) W (by omega) hPOs (by omega)).mono fun _ _ ⟨he, h2⟩ => ⟨he, h.trans (h2.mono h.size)⟩
          clear hz hcj hcap hup hPR hPRl hON hONl hONs hPOs hPOl hb65 hb89
          go_wp2
          clear ez
          go_region_with (go_at_call 36; ((refine (HTx.out _ (by first | exact Below.refl _ _ | exact (Below.refl _ _).drew | exact (Below.refl _ _).alloc (Nat.le_refl _) _ | exact ((Below.refl _ _).alloc (Nat.le_refl _) _).drew)).mono ?_); rintro e w2 ⟨rfl, hb2⟩))
          all_goals
            go_wp2
            go_ret
            exact ⟨rfl, hb1.trans (by first | exact hb2.mono hb1.size | exact (hb2.drew).mono hb1.size)⟩
end Go.Proofs.YtbjdfghakhplnaaDoor
