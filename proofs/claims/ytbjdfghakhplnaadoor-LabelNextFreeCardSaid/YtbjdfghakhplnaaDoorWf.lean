/-
  The contract of Next.
-/
import Derived.Deep.RegionHeld3
import Derived.Lib.ItoaMem
import Derived.Lib.AppendIntMem
import Derived.Test.YtbjdfghakhplnaaDoorWe
namespace Go.Proofs.YtbjdfghakhplnaaDoor
open Go.RowKit (wrap32 wrap64 intOf Hid Below)
open Lab

theorem itoa_any (n : Nat) (w : World) (hT : Tab w) (hn : n ≤ 1000000) :
    Calls Tryd.prog 35 #[.int .i64 (n : Int)] w fun e w' => e = .returned (.string (mk (Lib.decDigits n))) ∧ Below w.heap.size w w' :=
  (Tryd.strconv_Itoa (n : Int) (by omega) (by omega) w hT.1).mono fun e w' ⟨he, k, os, hw⟩ => ⟨by
    rw [he]
    unfold Lib.itoa mk
    rw [if_neg (by omega), Int.toNat_natCast], by rw [hw]; exact Lib.below_grow _ w (Nat.le_refl _) k os⟩
/-- What Next hands back of a text. -/
def nxV (l : Bs) : Value := match nextL l with
  | some t => .tuple #[.string (mk t), .bool true]
  | none => .tuple #[.string ⟨#[]⟩, .bool false]
theorem nx_no {l : Bs} (h : mayL l = false) : nxV l = .tuple #[.string ⟨#[]⟩, .bool false] := by
  have : nextL l = none := by unfold nextL; rw [h]; rfl
  unfold nxV
  rw [this]
theorem nx_yes {l : Bs} (h : mayL l = true) : nxV l = (match nextN (splitL l).1 (splitL l).2 with
  | some p => .tuple #[.string (mk (txt p.1 p.2)), .bool true]
  | none => .tuple #[.string ⟨#[]⟩, .bool false]) := by
  have : nextL l = (nextN (splitL l).1 (splitL l).2).map fun p => txt p.1 p.2 := by unfold nextL; rw [if_pos h]
  unfold nxV
  rw [this]
  cases nextN (splitL l).1 (splitL l).2 <;> rfl
theorem kz_here {c : Bs} {k : Nat} (hk : 0 < k) (h : c.getD (k - 1) 0 ≠ 90) : kz c k = k := by
  obtain ⟨j, rfl⟩ : ∃ j, k = j + 1 := ⟨k - 1, by omega⟩
  rw [kz, if_neg (by simpa using h)]
theorem kz_down {c : Bs} {k : Nat} (hk : 0 < k) (h : c.getD (k - 1) 0 = 90) : kz c k = kz c (k - 1) := by
  obtain ⟨j, rfl⟩ : ∃ j, k = j + 1 := ⟨k - 1, by omega⟩
  rw [kz, if_pos (by simpa using h), Nat.add_sub_cancel]

theorem cat_run (a b : ByteArray) (h : a.size + b.size ≤ 1000000) : Op.stringOp .add a b = pure (.string (a ++ b)) := by
  have hm : IntKind.i64.max = 9223372036854775807 := rfl
  unfold Op.stringOp
  simp only
  rw [if_neg (by rw [hm]; omega)]
theorem enc_low (x : UInt8) (h : x.toNat < 127) : (Utf8.encode ((x.toNat : Int) + 1)).data.toList = [up x] := by
  have hv : Utf8.valid ((x.toNat : Int) + 1) = true := by
    unfold Utf8.valid
    simp
    omega
  have ht : ((x.toNat : Int) + 1).toNat = x.toNat + 1 := by omega
  unfold Utf8.encode
  simp only [hv, if_true, ht]
  rw [if_pos (by omega)]
  show [UInt8.ofNat (x.toNat + 1)] = [up x]
  congr 1
theorem cat_list (a b : ByteArray) : (a ++ b).data.toList = a.data.toList ++ b.data.toList := by rw [ByteArray.data_append, Array.toList_append]
set_option maxHeartbeats 4000000 in
set_option maxRecDepth 100000 in
theorem next_any (s : ByteArray) (w : World) (hT : Tab w) (hs : s.size ≤ 1000000) :
    Calls Tryd.prog 17 #[.string s] w fun e w' => e = .returned (nxV s.data.toList) ∧ Below w.heap.size w w' := by
  have HSp := Lib.hid (split_any s w hT hs)
  have HTab := Lib.hid hT
  cases hm : mayL s.data.toList with
  | false =>
    unfold spV at HSp
    rw [split_no hm] at HSp
    have HV := Lib.hid (nx_no hm)
    clear hm hT
    go_enter Tryd.func17, Tryd.ntmps17
    go_wp2_with (go_at_call 11; ((with_reducible refine (HSp.out).mono ?_); rintro e w1 ⟨rfl, hb1⟩))
    go_ret2
    exact ⟨by rw [HV.out]; rfl, hb1⟩
  | true =>
    have hv := nx_yes hm
    have ho := (may_ok hm).1
    unfold spV at HSp
    obtain ⟨n, hn⟩ : ∃ n, n = (splitL s.data.toList).1 := ⟨_, rfl⟩
    obtain ⟨c, hc⟩ : ∃ c, c = (splitL s.data.toList).2 := ⟨_, rfl⟩
    rw [← hn, ← hc] at HSp hv ho
    obtain ⟨C, hC⟩ : ∃ C, C = mk c := ⟨_, rfl⟩
    rw [← hC] at HSp
    have hCl : C.data.toList = c := by rw [hC]; rfl
    have hCs : C.size = c.length := by rw [hC]; exact mk_size c
    have hn1 := ho.1
    have hn2 := ho.2.1
    have hc3 := ho.2.2.1
    have HO := Lib.hid ho
    have HV := Lib.hid hv
    have HCl := Lib.hid hCl
    have en : ((n : Int) == 0) = false := by rw [beq_eq_false_iff_ne]; omega
    have hC3 : C.size ≤ 3 := by omega
    have HCs := Lib.hid hCs
    clear hv ho hn hc hC hCl hm hT hCs
    go_enter Tryd.func17, Tryd.ntmps17
    go_wp2_with (go_at_call 11; ((with_reducible refine (HSp.out).mono ?_); rintro e w1 ⟨rfl, hb1⟩))
    go_loop [6] (fun v => ∃ k : Nat, k ≤ C.size ∧ v = .int .i64 k ∧ kz c c.length = kz c k) (fun v => (intOf v).toNat)
    case atStart => exact ⟨C.size, Nat.le_refl _, rfl, by rw [HCs.out]⟩
    case round =>
      obtain ⟨k, hk, rfl, hkz⟩ := hrel
      have HKz := Lib.hid hkz
      clear hkz
      rcases Nat.eq_zero_or_pos k with h0 | h0
      · subst h0
        have HK0 : Hid (kz c c.length = 0) := Lib.hid (by rw [HKz.out]; rfl)
        by_cases h9 : n = 9999
        · have HN : Hid (nextN n c = none) := Lib.hid (by unfold nextN; rw [HK0.out, if_neg (by omega), if_pos h9])
          have e9 : ((n : Int) == 9999) = true := by rw [beq_iff_eq]; omega
          have HVN : Hid (nxV s.data.toList = .tuple #[.string ⟨#[]⟩, .bool false]) := Lib.hid (by rw [HV.out, HN.out])
          clear h9
          go_wp2
          go_ret2
          exact ⟨by rw [HVN.out]; rfl, hb1⟩
        · have HN : Hid (nextN n c = some (n + 1, [])) := Lib.hid (by unfold nextN; rw [HK0.out, if_neg (by omega), if_neg h9])
          have e9 : ((n : Int) == 9999) = false := by rw [beq_eq_false_iff_ne]; omega
          have HIt : Hid (Calls Tryd.prog 35 #[.int .i64 ((n : Int) + 1)] w1 fun e w' => e = .returned (.string (mk (Lib.decDigits (n + 1)))) ∧ Below w1.heap.size w1 w') := Lib.hid (by
            have h := itoa_any (n + 1) w1 (HTab.out.below hb1) (by omega)
            rwa [Int.natCast_add] at h)
          clear h9
          go_wp2_with (go_at_call 35; ((with_reducible refine (HIt.out).mono ?_); rintro e w2 ⟨rfl, hb2⟩))
          go_ret2
          exact ⟨by rw [HV.out, HN.out]; show _ = Ending.returned (.tuple #[.string (mk (txt (n + 1) [])), .bool true]); unfold txt; rw [List.append_nil]; rfl, hb1.trans (hb2.mono hb1.size)⟩
      · obtain ⟨j, rfl⟩ : ∃ j, k = j + 1 := ⟨k - 1, by omega⟩
        have hj : j < C.size := by omega
        have HG := Lib.hid (getD_at C j hj)
        by_cases hz : C[j] = 90
        · have ez : ((C[j].toNat : Int) == 90) = true := by rw [hz]; decide
          have HD : Hid (kz c (j + 1) = kz c j) := Lib.hid (by
            have := kz_down (c := c) (k := j + 1) (by omega) (by rw [Nat.add_sub_cancel, ← HCl.out, HG.out, hz])
            rwa [Nat.add_sub_cancel] at this)
          clear hz h0
          go_wp2
          go_round
          case rel => exact ⟨j, by omega, by go_num, by rw [HKz.out, HD.out]⟩
          case measure => simp [intOf]
        · have ez : (((C[j]'hj).toNat : Int) == 90) = false := by
            rw [beq_eq_false_iff_ne]
            intro hh
            apply hz
            apply UInt8.toNat_inj.1
            have : (90 : UInt8).toNat = 90 := rfl
            omega
          have hcj : c.getD j 0 = (C[j]'hj) := by rw [← HCl.out, HG.out]
          have HK : Hid (kz c c.length = j + 1) := Lib.hid (by rw [HKz.out]; exact kz_here (by omega) (by rw [Nat.add_sub_cancel, hcj]; exact hz))
          have hcap := cap_at HO.out.2.2.2 (k := j) (by have := HCs.out; omega)
          rw [hcj] at hcap
          have hup := up_nat hcap hz
          have HN : Hid (nextN n c = some (n, c.take j ++ [up (C[j]'hj)])) := Lib.hid (by unfold nextN; rw [HK.out, if_pos (by omega), Nat.add_sub_cancel, hcj])
          have hb90 : ((C[j]'hj).toNat : Int) ≤ 89 ∧ 65 ≤ ((C[j]'hj).toNat : Int) := by
            unfold isCap at hcap
            rw [decide_eq_true_eq] at hcap
            have h1 : (C[j]'hj).toNat ≠ 90 := fun he => hz (UInt8.toNat_inj.1 he)
            omega
          have HIt : Hid (∀ W, Below w1.heap.size w1 W → Calls Tryd.prog 35 #[.int .i64 (n : Int)] W fun e w' => e = .returned (.string (mk (Lib.decDigits n))) ∧ Below w1.heap.size w1 w') := Lib.hid fun W h =>
            (itoa_any n W ((HTab.out.below hb1).below h) (by omega)).mono fun _ _ ⟨he, h2⟩ => ⟨he, h.trans (h2.mono h.size)⟩
          obtain ⟨hb89, hb65⟩ := hb90
          have HUp := Lib.hid hup
          have x1 : IntKind.i64.wrap ((j : Int) + 1 - 1) = (j : Int) := by rw [IntKind.wrap_i64]; omega
          have x3 : IntKind.i64.wrap (j : Int) = (j : Int) := by rw [IntKind.wrap_i64]; omega
          have x4 : IntKind.u8.wrap (((C[j]'hj).toNat : Int) + 1) = ((C[j]'hj).toNat : Int) + 1 := by rw [IntKind.wrap_u8]; omega
          have x5 : j ≤ C.size := by omega
          obtain ⟨IT, hIT⟩ : ∃ IT, IT = mk (Lib.decDigits n) := ⟨_, rfl⟩
          rw [← hIT] at HIt
          have x6 : IT.size ≤ 4 := by rw [hIT, mk_size]; exact dec_len n hn2
          obtain ⟨PR, hPR⟩ : ∃ PR, PR = C.extract 0 j := ⟨_, rfl⟩
          have x7 : PR.size ≤ 3 := by rw [hPR, ← size_list, ext_take, List.length_take]; omega
          have x8 : C.extract 0 j = PR := hPR.symm
          have HIT := Lib.hid hIT
          have HPR := Lib.hid hPR
          obtain ⟨EN, hEN⟩ : ∃ EN, EN = Utf8.encode (((C[j]'hj).toNat : Int) + 1) := ⟨_, rfl⟩
          have hENl : EN.data.toList = [up (C[j]'hj)] := by rw [hEN]; exact enc_low (C[j]'hj) (by omega)
          have hENs : EN.size = 1 := by rw [← size_list, hENl]; rfl
          have x9 : Utf8.encode (((C[j]'hj).toNat : Int) + 1) = EN := hEN.symm
          have cat1 := cat_run IT PR (by omega)
          have hips : (IT ++ PR).size ≤ 7 := by rw [ByteArray.size_append]; omega
          have cat2 := cat_run (IT ++ PR) EN (by omega)
          have HEN := Lib.hid hENl
          clear hIT hPR hEN hENl hENs hb89 hb65 hips
          clear hup hcap hcj hz h0
          go_wp2
          clear ez
          go_region_held3 (fun w' => Below w1.heap.size w1 w') (with_reducible (first | exact Below.refl _ _ | exact (Below.refl _ _).drew | exact hb2 | exact hb2.drew)) (first | (go_at_call 35; refine (HIt.out _ ?_).mono ?_; (with_reducible (first | exact Below.refl _ _ | exact (Below.refl _ _).drew)); rintro e w2 ⟨rfl, hb2⟩))
          all_goals
            go_wp2
            go_ret2
            refine ⟨?_, hb1.trans (by first | exact hb2.mono hb1.size | exact (hb2.drew).mono hb1.size)⟩
            have hv : nxV s.data.toList = .tuple #[.string (mk (txt n (c.take j ++ [up (C[j]'hj)]))), .bool true] := by rw [HV.out, HN.out]
            rw [hv]
            have e : IT ++ PR ++ EN = mk (txt n (c.take j ++ [up (C[j]'hj)])) := eq_mk (by rw [cat_list, cat_list, HIT.out, mk_list, HPR.out, ext_take, HCl.out, HEN.out]; unfold txt; rw [List.append_assoc])
            rw [← e]
            rfl
end Go.Proofs.YtbjdfghakhplnaaDoor
