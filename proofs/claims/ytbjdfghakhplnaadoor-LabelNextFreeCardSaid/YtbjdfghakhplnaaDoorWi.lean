/-
  The contract of Between.
-/
import Derived.Test.YtbjdfghakhplnaaDoorWh
namespace Go.Proofs.YtbjdfghakhplnaaDoor
open Go.RowKit (wrap32 wrap64 intOf Hid Below)
open Lab

/-- What Between hands back, as a pair. -/
def btV : Option (Nat × Bs) → Value
  | some p => .tuple #[.string (mk (txt p.1 p.2)), .bool true]
  | none => .tuple #[.string ⟨#[]⟩, .bool false]
/-- The best label between two texts, or none where one of them is no label. -/
def BestL (a b : Bs) (R : Option (Nat × Bs)) : Prop :=
  if mayL a = true ∧ mayL b = true then Best (splitL a).1 (splitL a).2 (splitL b).1 (splitL b).2 R else R = none
theorem BestL.unique {a b : Bs} {R S : Option (Nat × Bs)} (h : BestL a b R) (g : BestL a b S) : R = S := by
  unfold BestL at h g
  by_cases hm : mayL a = true ∧ mayL b = true
  · rw [if_pos hm] at h g
    exact h.unique g
  · rw [if_neg hm] at h g
    rw [h, g]
def BtRet (a b : Bs) (e : Ending) : Prop := ∃ R, BestL a b R ∧ e = .returned (btV R)
/-- A label's text, cut somewhere behind its number. -/
theorem cut_txt {n : Nat} {c : Bs} (j : Nat) (hj : j ≤ c.length) : (txt n c).take ((txt n c).length - (c.length - j)) = txt n (c.take j) := by
  unfold txt
  rw [List.length_append, List.take_append, List.take_of_length_le (by omega)]
  congr 2
  omega

set_option maxHeartbeats 4000000 in
set_option maxRecDepth 100000 in
theorem between_any (a b : ByteArray) (w : World) (hT : Tab w) (ha : a.size ≤ 1000) (hb : b.size ≤ 1000) :
    Calls Tryd.prog 19 #[.string a, .string b] w fun e w' => BtRet a.data.toList b.data.toList e ∧ Below w.heap.size w w' := by
  have HVa := Lib.hid (valid_any a w hT (by omega))
  have HVb : Hid (∀ W, Below w.heap.size w W → Calls Tryd.prog 13 #[.string b] W fun e w' => e = .returned (.bool (mayL b.data.toList)) ∧ Below w.heap.size w w') := Lib.hid fun W h =>
    (valid_any b W (hT.below h) (by omega)).mono fun _ _ ⟨he, h2⟩ => ⟨he, h.trans (h2.mono h.size)⟩
  cases xa : mayL a.data.toList with
  | false =>
    rw [xa] at HVa
    have HR : Hid (BestL a.data.toList b.data.toList none) := Lib.hid (by unfold BestL; rw [if_neg (by rw [xa]; simp)])
    clear xa hT
    go_enter Tryd.func19, Tryd.ntmps19
    go_wp2_with (go_at_call 13; ((with_reducible refine (HVa.out).mono ?_); rintro e w1 ⟨rfl, hb1⟩))
    go_ret2
    exact ⟨⟨none, HR.out, rfl⟩, hb1⟩
  | true =>
    rw [xa] at HVa
    cases xb : mayL b.data.toList with
    | false =>
      rw [xb] at HVb
      have HR : Hid (BestL a.data.toList b.data.toList none) := Lib.hid (by unfold BestL; rw [if_neg (by rw [xb]; simp)])
      clear xa xb hT
      go_enter Tryd.func19, Tryd.ntmps19
      go_wp2_with fail
      with_reducible refine (HVa.out).mono ?_
      rintro e w1 ⟨rfl, hb1⟩
      go_wp2_with (go_at_call 13; ((with_reducible refine (HVb.out _ hb1).mono ?_); rintro e w2 ⟨rfl, hb2⟩))
      go_ret2
      exact ⟨⟨none, HR.out, rfl⟩, hb2⟩
    | true =>
      rw [xb] at HVb
      have HB : Hid (∀ R, Best (splitL a.data.toList).1 (splitL a.data.toList).2 (splitL b.data.toList).1 (splitL b.data.toList).2 R → BestL a.data.toList b.data.toList R) := Lib.hid fun R h => by unfold BestL; rw [if_pos ⟨xa, xb⟩]; exact h
      have oa := may_ok xa
      have ob := may_ok xb
      have hsp := fun W h => split_any a W (Tab.below (w' := W) hT h) (by omega)
      unfold spV at hsp
      obtain ⟨n, hn⟩ : ∃ n, n = (splitL a.data.toList).1 := ⟨_, rfl⟩
      obtain ⟨c, hc⟩ : ∃ c, c = (splitL a.data.toList).2 := ⟨_, rfl⟩
      obtain ⟨m, hm⟩ : ∃ m, m = (splitL b.data.toList).1 := ⟨_, rfl⟩
      obtain ⟨d, hd⟩ : ∃ d, d = (splitL b.data.toList).2 := ⟨_, rfl⟩
      rw [← hn, ← hc] at hsp oa
      rw [← hm, ← hd] at ob
      rw [← hn, ← hc, ← hm, ← hd] at HB
      have HSp : Hid (∀ W, Below w.heap.size w W → Calls Tryd.prog 11 #[.string a] W fun e w' => e = .returned (.tuple #[.int .i64 (n : Int), .string (mk c)]) ∧ Below w.heap.size w w') := Lib.hid fun W h =>
        (hsp W h).mono fun _ _ ⟨he, h2⟩ => ⟨he, h.trans (h2.mono h.size)⟩
      clear hsp
      obtain ⟨C, hC⟩ : ∃ C, C = mk c := ⟨_, rfl⟩
      rw [← hC] at HSp
      have hCs : C.size = c.length := by rw [hC]; exact mk_size c
      have hC3 : C.size ≤ 3 := by have := oa.1.2.2.1; omega
      have HCs := Lib.hid hCs
      have HOa := Lib.hid oa.1
      have HOb := Lib.hid ob.1
      have HAt := Lib.hid oa.2
      have HBt := Lib.hid ob.2
      have haC : C.size ≤ a.size := by
        have h1 := congrArg List.length oa.2
        unfold txt at h1
        rw [size_list, List.length_append] at h1
        omega
      -- the comparison with the end, of a label's text
      have HCmp : Hid (∀ (W : World) (q : Nat) (f : Bs), Below w.heap.size w W → Ok q f → ∃ r : Int, Calls Tryd.prog 15 #[.string (mk (txt q f)), .string b] W (fun e w' => e = .returned (.int .i64 r) ∧ Below w.heap.size w w') ∧ (r < 0 ↔ Lt q f m d)) := Lib.hid fun W q f h ho => by
        refine ⟨compL (txt q f) b.data.toList, ?_, ?_⟩
        · have hl : (mk (txt q f)).size ≤ 1000000 := by rw [mk_size]; have := may_len (may_txt ho).1; omega
          exact (compare_any (mk (txt q f)) b W (hT.below h) hl (by omega)).mono fun _ _ ⟨he, h2⟩ => ⟨he, h.trans (h2.mono h.size)⟩
        · rw [HBt.out]
          exact comp_lt ho HOb.out
      have HNx : Hid (∀ (W : World) (s : ByteArray) (j : Nat), Below w.heap.size w W → j ≤ c.length → s.data.toList = txt n (c.take j) → Calls Tryd.prog 17 #[.string s] W fun e w' => e = .returned (match nextN n (c.take j) with | some p => .tuple #[.string (mk (txt p.1 p.2)), .bool true] | none => .tuple #[.string ⟨#[]⟩, .bool false]) ∧ Below w.heap.size w w') := Lib.hid fun W s j h hj he => by
        have hok := ok_take HOa.out j
        have h1 := next_any s W (hT.below h) (by
          rw [← size_list, he]
          have := may_len (may_txt hok).1
          omega)
        rw [he, nx_yes (may_txt hok).1, (may_txt hok).2] at h1
        exact h1.mono fun _ _ ⟨he, h2⟩ => ⟨he, h.trans (h2.mono h.size)⟩
      have HVs : Hid (∀ (W : World) (s : ByteArray), Below w.heap.size w W → s.size ≤ 10000 → Calls Tryd.prog 13 #[.string s] W fun e w' => e = .returned (.bool (mayL s.data.toList)) ∧ Below w.heap.size w w') := Lib.hid fun W s h hs =>
        (valid_any s W (hT.below h) (by omega)).mono fun _ _ ⟨he, h2⟩ => ⟨he, h.trans (h2.mono h.size)⟩
      clear xa xb hT hn hc hm hd hC hCs oa ob
      go_enter Tryd.func19, Tryd.ntmps19
      go_wp2_with fail
      with_reducible refine (HVa.out).mono ?_
      rintro e w1 ⟨rfl, hb1⟩
      go_wp2_with fail
      with_reducible refine (HVb.out _ hb1).mono ?_
      rintro e w2 ⟨rfl, hb2⟩
      go_wp2_with fail
      with_reducible refine (HSp.out _ hb2).mono ?_
      rintro e w3 ⟨rfl, hb3⟩
      go_wp2
      go_loopw [8] (fun v wr => ∃ z : Int, -1 ≤ z ∧ z ≤ C.size ∧ v = .int .i64 z ∧ Failed n c m d ((C.size : Int) - z).toNat ∧ Below w.heap.size w wr) (fun v _ => (intOf v + 1).toNat)
      case atStart => exact ⟨C.size, by omega, Int.le_refl _, rfl, by
        rw [show ((C.size : Int) - C.size).toNat = 0 by omega]
        intro i hi
        exact absurd hi (by omega), hb3⟩
      case round =>
        obtain ⟨z, hz1, hz2, rfl, hf, hbw⟩ := hrel
        have HF := Lib.hid hf
        clear hf
        by_cases hz : 0 ≤ z
        · obtain ⟨k, rfl⟩ := Int.eq_ofNat_of_zero_le hz
          obtain ⟨j, hj⟩ : ∃ j, j = C.size - k := ⟨_, rfl⟩
          have hkC : k ≤ C.size := by omega
          have hjC : j ≤ C.size := by omega
          have HFj : Hid (Failed n c m d j) := Lib.hid (by
            have h1 := HF.out
            rwa [show ((C.size : Int) - (k : Int)).toNat = j by omega] at h1)
          have hcut : (a.extract 0 (a.size - k)).data.toList = txt n (c.take j) := by
            rw [ext_take]
            have h1 := cut_txt (n := n) (c := c) j (by have := HCs.out; omega)
            rw [← HAt.out, size_list] at h1
            rw [← h1]
            congr 1
            have := HCs.out
            omega
          have h1 := HNx.out wr _ j hbw (by have := HCs.out; omega) hcut
          obtain ⟨E, hE⟩ : ∃ E, E = a.extract 0 (a.size - k) := ⟨_, rfl⟩
          rw [← hE] at h1
          have x8 : a.extract 0 (a.size - k) = E := hE.symm
          have HSt : Hid (Failed n c m d (j + 1) → Failed n c m d ((C.size : Int) - ((k : Int) - 1)).toNat) := Lib.hid fun h => by
            rwa [show ((C.size : Int) - ((k : Int) - 1)).toNat = j + 1 by omega]
          cases hnx : nextN n (c.take j) with
          | none =>
            rw [hnx] at h1
            have HN1 := Lib.hid h1
            have HFn := Lib.hid (HSt.out (HFj.out.next (fun q f h => by rw [hnx] at h; cases h)))
            clear h1 hcut hE hj hnx
            go_wp2_with fail
            with_reducible refine (HN1.out).mono ?_
            rintro e w4 ⟨rfl, hb4⟩
            go_wp2
            go_roundw
            case rel => exact ⟨(k : Int) - 1, by omega, by omega, by go_num, HFn.out, hb4⟩
            case measure => simp [intOf]
          | some p =>
            obtain ⟨q, f⟩ := p
            rw [hnx] at h1
            have HN1 := Lib.hid h1
            have hok := (next_ok (ok_take HOa.out j) hnx).1
            have HOk := Lib.hid hok
            by_cases hl : Lt q f m d
            · have HBest := Lib.hid (HB.out _ (prog_found HOa.out (by have := HCs.out; omega) HFj.out hnx hl))
              have HL := Lib.hid hl
              clear h1 hcut hE hj hnx hok hl
              go_wp2_with fail
              with_reducible refine (HN1.out).mono ?_
              rintro e w4 ⟨rfl, hb4⟩
              obtain ⟨r, hr, hrl⟩ := HCmp.out w4 q f hb4 HOk.out
              have HCa := Lib.hid hr
              have hr0 : r < 0 := hrl.2 HL.out
              clear hr hrl
              go_wp2_with (go_at_call 15; ((with_reducible refine (HCa.out).mono ?_); rintro e w5 ⟨rfl, hb5⟩))
              go_ret2
              exact ⟨⟨some (q, f), HBest.out, rfl⟩, hb5⟩
            · have HFn := Lib.hid (HSt.out (HFj.out.next (fun q' f' h => by
                rw [hnx] at h
                obtain ⟨rfl, rfl⟩ := Prod.mk.inj (Option.some.inj h)
                exact hl)))
              have HL := Lib.hid hl
              clear h1 hcut hE hj hnx hok hl
              go_wp2_with fail
              with_reducible refine (HN1.out).mono ?_
              rintro e w4 ⟨rfl, hb4⟩
              obtain ⟨r, hr, hrl⟩ := HCmp.out w4 q f hb4 HOk.out
              have HCa := Lib.hid hr
              have hr0 : ¬ r < 0 := fun h => HL.out (hrl.1 h)
              clear hr hrl
              go_wp2_with (go_at_call 15; ((with_reducible refine (HCa.out).mono ?_); rintro e w5 ⟨rfl, hb5⟩))
              go_roundw
              case rel => exact ⟨(k : Int) - 1, by omega, by omega, by go_num, HFn.out, hb5⟩
              case measure => simp [intOf]
        · obtain rfl : z = -1 := by omega
          have HFe : Hid (Failed n c m d (c.length + 1)) := Lib.hid (by
            have h1 := HF.out
            rwa [show ((C.size : Int) - (-1 : Int)).toNat = c.length + 1 by have := HCs.out; omega] at h1)
          obtain ⟨E, hE⟩ : ∃ E, E = a ++ (⟨#[65]⟩ : ByteArray) := ⟨_, rfl⟩
          have hEl : E.data.toList = txt n (c ++ [65]) := by
            rw [hE, cat_list, HAt.out]
            unfold txt
            rw [List.append_assoc]
          have hEs : E.size ≤ 10000 := by rw [hE, ByteArray.size_append]; have : (⟨#[65]⟩ : ByteArray).size = 1 := rfl; omega
          have x8 : a ++ (⟨#[65]⟩ : ByteArray) = E := hE.symm
          have cat1 := cat_run a ⟨#[65]⟩ (by have : (⟨#[65]⟩ : ByteArray).size = 1 := rfl; omega)
          rw [x8] at cat1
          have h1 := HVs.out wr E hbw hEs
          by_cases h3 : c.length + 1 ≤ 3
          · have hok : Ok n (c ++ [65]) := ⟨HOa.out.1, HOa.out.2.1, by simpa using h3, fun x hx => by
              rcases List.mem_append.1 hx with hx | hx
              · exact HOa.out.2.2.2 x hx
              · rw [List.mem_singleton.1 hx]; decide⟩
            rw [hEl, (may_txt hok).1] at h1
            have HV1 := Lib.hid h1
            have HOk := Lib.hid hok
            have HE : Hid (E = mk (txt n (c ++ [65]))) := Lib.hid (eq_mk hEl)
            by_cases hl : Lt n (c ++ [65]) m d
            · have HBest := Lib.hid (HB.out _ (prog_yes HOa.out HFe.out h3 hl))
              have HL := Lib.hid hl
              clear h1 hE hEl hok hl h3
              go_wp2_with fail
              with_reducible refine (HV1.out).mono ?_
              rintro e w4 ⟨rfl, hb4⟩
              obtain ⟨r, hr, hrl⟩ := HCmp.out w4 _ _ hb4 HOk.out
              rw [← HE.out] at hr
              have HCa := Lib.hid hr
              have hr0 : r < 0 := hrl.2 HL.out
              clear hr hrl
              go_wp2_with (go_at_call 15; ((with_reducible refine (HCa.out).mono ?_); rintro e w5 ⟨rfl, hb5⟩))
              go_ret2
              exact ⟨⟨some (n, c ++ [65]), HBest.out, by rw [HE.out]; rfl⟩, hb5⟩
            · have HBest := Lib.hid (HB.out _ (prog_no HOa.out HFe.out (Or.inr hl)))
              have HL := Lib.hid hl
              clear h1 hE hEl hok hl h3
              go_wp2_with fail
              with_reducible refine (HV1.out).mono ?_
              rintro e w4 ⟨rfl, hb4⟩
              obtain ⟨r, hr, hrl⟩ := HCmp.out w4 _ _ hb4 HOk.out
              rw [← HE.out] at hr
              have HCa := Lib.hid hr
              have hr0 : ¬ r < 0 := fun h => HL.out (hrl.1 h)
              clear hr hrl
              go_wp2_with (go_at_call 15; ((with_reducible refine (HCa.out).mono ?_); rintro e w5 ⟨rfl, hb5⟩))
              go_ret2
              exact ⟨⟨none, HBest.out, rfl⟩, hb5⟩
          · have hc3 : c.length = 3 := by have := HOa.out.2.2.1; omega
            have hno : mayL E.data.toList = false := by
              cases hme : mayL E.data.toList with
              | false => rfl
              | true =>
                exfalso
                obtain ⟨o1, o2⟩ := may_ok hme
                obtain ⟨t1, t2⟩ := take_dig (Lib.decDigits n) (c ++ [65]) (dec_dig n) (fun x hx => by
                  rcases List.mem_append.1 hx with hx | hx
                  · exact HOa.out.2.2.2 x hx
                  · rw [List.mem_singleton.1 hx]; decide)
                have o3 := o1.2.2.1
                unfold splitL at o3
                rw [if_pos hme, hEl] at o3
                unfold txt at o3
                rw [t2] at o3
                simp at o3
                omega
            rw [hno] at h1
            have HV1 := Lib.hid h1
            have HBest := Lib.hid (HB.out _ (prog_no HOa.out HFe.out (Or.inl hc3)))
            clear h1 hE hEl h3 hc3 hno
            go_wp2_with (go_at_call 13; ((with_reducible refine (HV1.out).mono ?_); rintro e w4 ⟨rfl, hb4⟩))
            go_ret2
            exact ⟨⟨none, HBest.out, rfl⟩, hb4⟩
end Go.Proofs.YtbjdfghakhplnaaDoor
