/-
  LabelNextFree: the law returns true for every list and every string.
-/
import Derived.Test.YtbjdfghakhplnaaDoorNf
namespace Go.Proofs.YtbjdfghakhplnaaDoor
open Go.RowKit (wrap32 wrap64 intOf Hid Below)
open Lab

theorem it_first {s y : Bs} (h : it s 0 = some y) : y = s := by
  unfold it at h
  by_cases hm : mayL s = true
  · rw [if_pos hm] at h; exact (Option.some.inj h).symm
  · rw [if_neg hm] at h; cases h
theorem it_zero {s x : Bs} : ∀ {k : Nat}, it s k = some x → it s 0 = some s
  | 0, h => by
    have e := it_first h
    rw [e] at h
    exact h
  | k + 1, h => by
    cases hk : it s k with
    | none =>
      have : it s (k + 1) = none := by show (it s k).bind nextL = none; rw [hk]; rfl
      rw [this] at h; cases h
    | some y => exact it_zero hk

set_option maxHeartbeats 4000000 in
theorem lawNextFree {L0 : List Str} {n0 c0 : Nat} {A0 : Option Addr} {a1 : ByteArray} {w : World} (hT : Tab w) (h0 : Sq w A0 n0 c0 L0) :
    Calls Tryd.prog 9 #[.slice A0 n0 c0, .string a1] w fun e w' => e = .returned (.bool true) ∧ Below w.heap.size w w' := by
  have HA := Lib.hid (awake_c w hT)
  have hb0 := Below.refl w.heap.size w
  have HL := Lib.hid h0
  have HFew : Hid (∀ W, Below w.heap.size w W → Calls Tryd.prog 21 #[.slice A0 n0 c0] W fun e w' => FewRet L0 n0 e ∧ W = w') := Lib.hid fun W h => few_any L0 n0 c0 A0 W (HL.out.below h)
  have HTab := Lib.hid hT
  clear hT h0
  go_enter Tryd.func9, Tryd.ntmps9
  go_wp2_with fail
  with_reducible refine (HA.out _ (by assumption)).mono ?_
  rintro e w1 ⟨rfl, hb1⟩
  go_wp2_with fail
  with_reducible refine (HFew.out _ (by assumption)).mono ?_
  rintro e w2 ⟨⟨b, rfl, hf⟩, rfl⟩
  have HFb := Lib.hid hf
  clear hf
  cases b with
  | false =>
    go_wp2_with (go_at_call 10; ((with_reducible refine (HA.out _ (by assumption)).mono ?_); rintro e w3 ⟨rfl, hb3⟩))
    go_ret
    exact ⟨rfl, hb3⟩
  | true =>
    obtain ⟨h60, h40⟩ := HFb.out rfl
    have H40 := Lib.hid h40
    clear h40 HFb
    by_cases c1 : a1.size > 40
    · go_wp2_with (go_at_call 10; ((with_reducible refine (HA.out _ (by assumption)).mono ?_); rintro e w3 ⟨rfl, hb3⟩))
      go_ret
      exact ⟨rfl, hb3⟩
    · have HNf := Lib.hid (nextfree_any L0 a1 n0 c0 A0 w1 (HTab.out.below hb1) (HL.out.below hb1) H40.out (by omega))
      have hE0 := str_eq ⟨#[]⟩ ⟨#[]⟩
      rw [decide_eq_true rfl] at hE0
      go_wp2_with fail
      with_reducible refine (HNf.out).mono ?_
      rintro e w2 ⟨⟨R, hR, rfl⟩, hb2⟩
      have hb12 := hb1.trans (hb2.mono hb1.size)
      have HFr := Lib.hid (free_any L0 a1 n0 c0 A0 w2 (HL.out.below hb12) (by omega))
      go_wp2_with fail
      with_reducible refine (HFr.out).mono ?_
      rintro e w3 ⟨⟨R2, hR2, rfl⟩, hb3⟩
      obtain rfl := hR.unique hR2
      have hb13 := hb12.trans (hb3.mono hb12.size)
      have hb13z := hb13.size
      clear hR2
      cases R with
      | none =>
        rw [show (none : Option Bs).isSome = false from rfl, show frV none = ⟨#[]⟩ from rfl]
        clear hR
        go_wp2
        go_loopw [8] (fun v wr => v = .string a1 ∧ Below w.heap.size w wr) (fun _ _ => 0)
        case atStart => exact ⟨rfl, hb13⟩
        case round =>
          obtain ⟨rfl, hb4⟩ := hrel
          go_wp2
          go_ret
          exact ⟨rfl, hb4⟩
      | some x =>
        obtain ⟨k, hat, hik, hno⟩ := hR
        have hmx := it_may _ _ _ hik
        have HIn := Lib.hid (in_any L0 (mk x) n0 c0 A0 w3 (HL.out.below hb13))
        rw [mem_no (hno x rfl)] at HIn
        have hne := mk_full hmx
        have hne2 := str_eq (mk x) ⟨#[]⟩
        rw [decide_eq_false (mk_ne hmx)] at hne2
        have hTT0 := str_eq (mk x) (mk x)
        rw [decide_eq_true rfl] at hTT0
        rw [show (some x : Option Bs).isSome = true from rfl, show frV (some x) = mk x from rfl]
        have HAt := Lib.hid hat
        have HIk := Lib.hid hik
        have HI0 := Lib.hid (it_zero hik)
        obtain ⟨T, hTT⟩ : ∃ T, T = mk x := ⟨_, rfl⟩
        rw [← hTT] at HIn hne hne2 hTT0 ⊢
        have HT := Lib.hid hTT
        clear hTT hat hik hno hmx
        go_wp2_with (go_at_call 27; ((with_reducible refine (HIn.out).mono ?_); rintro e w4 ⟨rfl, rfl⟩))
        go_loopw [8] (fun v wr => ∃ (j : Nat) (y : Bs), v = .string (mk y) ∧ j ≤ k ∧ it a1.data.toList j = some y ∧ Below w.heap.size w wr) (fun v _ => cnt L0 (txtOf v))
        case atStart => exact ⟨0, a1.data.toList, congrArg Value.string (mk_self a1).symm, Nat.zero_le _, HI0.out, hb13⟩
        case round =>
          rename World => w5
          obtain ⟨j, y, rfl, hjk, hij, hb5⟩ := hrel
          have HIj := Lib.hid hij
          have hs := str_eq (mk y) T
          by_cases he : mk y = T
          · rw [decide_eq_true he] at hs
            clear hij he
            obtain ⟨Y, hY⟩ : ∃ Y, Y = mk y := ⟨_, rfl⟩
            rw [← hY] at hs ⊢
            clear hY
            go_wp2
            go_ret
            exact ⟨rfl, hb5⟩
          · rw [decide_eq_false he] at hs
            have hlt : j < k := by
              rcases Nat.lt_or_ge j k with h | h
              · exact h
              · obtain rfl : j = k := by omega
                have := HIk.out
                rw [hij] at this
                exact absurd (by rw [Option.some.inj this, HT.out]) he
            obtain ⟨y', hy', hmem⟩ := HAt.out j hlt
            rw [hij] at hy'
            obtain rfl := Option.some.inj hy'
            have hnx : ∃ z, nextL y = some z := by
              rw [← it_next hij]
              by_cases h : j + 1 = k
              · rw [h]; exact ⟨x, HIk.out⟩
              · obtain ⟨z, hz, _⟩ := HAt.out (j + 1) (by omega)
                exact ⟨z, hz⟩
            obtain ⟨z, hz⟩ := hnx
            have hm := it_may _ _ _ hij
            have h7 := may_len hm
            have HIn5 := Lib.hid (in_any L0 (mk y) n0 c0 A0 w5 (HL.out.below hb5))
            rw [mem_yes hmem] at HIn5
            have HNx := Lib.hid (next_any (mk y) w5 (HTab.out.below hb5) (by rw [mk_size]; omega))
            have hv : nxV (mk y).data.toList = .tuple #[.string (mk z), .bool true] := by rw [mk_list]; unfold nxV; rw [hz]
            rw [hv] at HNx
            have HNi : Hid (it a1.data.toList (j + 1) = some z) := Lib.hid (by rw [it_next hij]; exact hz)
            have HMe := Lib.hid (cnt_next (L := L0) hz hmem)
            obtain ⟨Y, hY⟩ : ∃ Y, Y = mk y := ⟨_, rfl⟩
            obtain ⟨Z, hZ⟩ : ∃ Z, Z = mk z := ⟨_, rfl⟩
            rw [← hY] at hs HIn5 HNx ⊢
            rw [← hZ] at HNx
            have HY := Lib.hid hY
            have HZ := Lib.hid hZ
            clear hY hZ hij hy' hmem hz hm hv he h7
            go_wp2_with (first
              | (go_at_call 27; ((with_reducible refine (HIn5.out).mono ?_); rintro e w6 ⟨rfl, rfl⟩))
              | (go_at_call 17; ((with_reducible refine (HNx.out).mono ?_); rintro e w7 ⟨rfl, hb7⟩)))
            go_roundw
            case rel => exact ⟨j + 1, z, by rw [HZ.out], by omega, HNi.out, hb5.trans (hb7.mono hb5.size)⟩
            case measure =>
              have h1 := HMe.out
              show cnt L0 (txtOf (.string Z)) < cnt L0 (txtOf (.string Y))
              rw [HY.out, HZ.out]
              exact h1
end Go.Proofs.YtbjdfghakhplnaaDoor
