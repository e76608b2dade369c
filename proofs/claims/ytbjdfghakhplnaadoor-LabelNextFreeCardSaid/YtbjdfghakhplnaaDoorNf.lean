/-
  The contract of NextFree, whose set of names is a map of its own.
-/
import Derived.Test.YtbjdfghakhplnaaDoorFr
namespace Go.Proofs.YtbjdfghakhplnaaDoor
open Go.RowKit (wrap32 wrap64 intOf Hid Below)
open Go.Maps Go.WideMaps
open Lab

theorem keyLaw : Keyed Tryd.prog 9 := string_keyed Tryd.underlying9
/-- A datum that reads as the set of a list's strings. -/
def SetIs (D : DataW Unit) (L : List Str) : Prop := IsMap D ∧ ∀ x : Str, D.atKey (.string x.data.toList) (.lit (.bool false)) = .lit (.bool (memB L x))
theorem SetIs.start : SetIs (.map []) [] := ⟨isMap_empty, fun _ => rfl⟩
theorem mem_snoc (L : List Str) (s x : Str) : memB (L ++ [s]) x = (memB L x || decide (s = x)) := by
  unfold memB
  rw [List.any_append]
  simp
theorem SetIs.put {D : DataW Unit} {L : List Str} (h : SetIs D L) (s : Str) : SetIs (D.put (.string s.data.toList) (.lit (.bool true))) (L ++ [s]) := by
  refine ⟨h.1.put _ _, fun x => ?_⟩
  rw [mem_snoc]
  by_cases hx : s = x
  · subst hx
    rw [atKey_put_same h.1 (show WideAt.IsKeyLit (.string s.data.toList) from trivial), decide_eq_true rfl, Bool.or_true]
  · rw [atKey_put_other (fun e => hx ?_), h.2 x, decide_eq_false hx, Bool.or_false]
    have e1 : x.data.toList = s.data.toList := by injection e
    rw [eq_mk e1.symm, mk_self]
theorem bool_inv {v : Value} {x : Bool} {ps : List MemPlace} (h : plainElem (H := Unit) Tryd.prog 4 v = some (.lit (.bool x), ps)) : v = .bool x := by
  unfold plainElem at h
  rw [Tryd.underlying4] at h
  cases v <;> simp at h
  rw [h.1]
theorem look {W : World} {b n : Nat} {D : DataW Unit} {L : List Str} (h : W.ownsMap Tryd.prog 9 (plainElem (H := Unit) Tryd.prog 4) b n D) (hs : SetIs D L) (x : Str) (hx : x.size ≤ 1000) :
    (Instr.lookup 54 (.map (some b)) (.string x) false).run Tryd.prog W = .ok (.bool (memB L x)) W := by
  obtain ⟨v, ps, hrun, hv⟩ := h.lookup keyLaw Tryd.underlying54 (Tryd.zeroValue4 W) (plainElem_bool Tryd.underlying4 false) (keyOf_string_mk (s := x) Tryd.underlying9 (by unfold maxLen; omega))
  rw [hs.2 x] at hv
  rw [hrun, bool_inv hv]
theorem map_below {w w' : World} {b n : Nat} {D : DataW Unit} (h : w.ownsMap Tryd.prog 9 (plainElem (H := Unit) Tryd.prog 4) b n D) (hb : Below w.heap.size w w') : w'.ownsMap Tryd.prog 9 (plainElem (H := Unit) Tryd.prog 4) b n D := by
  have hlt := h.lt
  obtain ⟨es, clock, he, F, hs, hD⟩ := h
  exact ⟨es, clock, (hb.block b hlt).trans he, F, hs, hD⟩

set_option maxHeartbeats 4000000 in
theorem nextfree_any (L : List Str) (s : Str) (n c : Nat) (A : Option Addr) (w : World) (hT : Tab w) (hl : Sq w A n c L) (h40 : ∀ j, j < n → (st L j).size ≤ 40) (hs : s.size ≤ 1000) :
    Calls Tryd.prog 25 #[.slice A n c, .string s] w fun e w' => NfRet L s.data.toList e ∧ Below w.heap.size w w' := by
  have HL := Lib.hid hl
  have HLn := Lib.hid hl.len
  have hn := hl.1.2.2.2.1
  have HTab := Lib.hid hT
  have H40 := Lib.hid h40
  have hmm : ∀ (t : TypeId) (w : World), (Instr.makeMap t none).run Tryd.prog w = .ok (.map (some w.heap.size)) (w.alloc (.map #[] 0)) := fun _ _ => rfl
  have hb00 := alloc_below w (.map #[] 0)
  clear hl hT h40
  go_enter Tryd.func25, Tryd.ntmps25
  go_wp2
  go_loopw [13] (fun i wr => ∃ (k : Nat) (D : DataW Unit), k ≤ n ∧ i = .int .i64 k ∧ wr.ownsMap Tryd.prog 9 (plainElem (H := Unit) Tryd.prog 4) w.heap.size k D ∧ SetIs D (L.take k) ∧ Below w.heap.size w wr) (fun i _ => n - (intOf i).toNat)
  case atStart => exact ⟨0, .map [], Nat.zero_le _, rfl, World.ownsMap_made _ _ _ _, SetIs.start, hb00⟩
  case round =>
    rename World => w1
    obtain ⟨k, D, hk, rfl, hown, hset, hb1⟩ := hrel
    have HO := Lib.hid hown
    have HSet := Lib.hid hset
    have hb1z := hb1.size
    clear hown hset
    by_cases hlt : k < n
    · obtain ⟨b, off, rfl, hB, hcell⟩ := (HL.out.1.1.below hb1).str (Below.refl _ _) hlt
      have hkey : keyOf Tryd.prog 9 (.string (st L k)) = some (.string (st L k).data.toList) := keyOf_string_mk Tryd.underlying9 (by have := H40.out k hlt; unfold maxLen; omega)
      have HTk : Hid (L.take (k + 1) = L.take k ++ [st L k]) := Lib.hid (by rw [List.take_succ_eq_append_getElem (by rw [HLn.out]; exact hlt), st_eq])
      go_wp2_with (first
        | (at_mapUpdate; refine wpList_mapUpdate_own _ rfl _ _ _ 54 rfl 9 4 keyLaw Tryd.underlying54 (plainElem (H := Unit) Tryd.prog 4) w.heap.size k _ rfl HO.out (by unfold maxLen; omega) _ _ _ rfl rfl hkey _ [] (plainElem_bool Tryd.underlying4 true) ?_; intro w2 hown2 hgrow2)
        | go_in)
      go_roundw
      case rel => exact ⟨k + 1, _, by omega, by go_num, hown2, by rw [HTk.out]; exact HSet.out.put _, hb1.grown hgrow2 hb1z (fun j hj => by cases hj; exact Nat.le_refl _)⟩
      case measure => simp [intOf]; omega
    · obtain rfl : k = n := by omega
      have hset : SetIs D L := by have h := HSet.out; rwa [List.take_of_length_le (by rw [HLn.out]; exact Nat.le_refl _)] at h
      have HS := Lib.hid hset
      have HV := Lib.hid (valid_any s w1 (HTab.out.below hb1) (by omega))
      clear hset
      cases hm : mayL s.data.toList with
      | false =>
        rw [hm] at HV
        have HF := Lib.hid (free_none (L := L) hm)
        clear hm
        go_wp2_with fail
        with_reducible refine (HV.out).mono ?_
        rintro e w2 ⟨rfl, hb2⟩
        have hb12 := hb1.trans (hb2.mono hb1z)
        go_wp2
        go_loopw [1, 9] (fun v o wr => v = .string s ∧ o = .bool false ∧ Below w.heap.size w wr) (fun _ _ _ => 0)
        case atStart => exact ⟨rfl, rfl, hb12⟩
        case round =>
          obtain ⟨rfl, rfl, hb3⟩ := hrel
          go_wp2
          go_ret2
          exact ⟨⟨none, HF.out, rfl⟩, hb3⟩
      | true =>
        rw [hm] at HV
        have HI0 : Hid (it s.data.toList 0 = some s.data.toList) := Lib.hid (by unfold it; rw [if_pos hm])
        clear hm
        go_wp2_with fail
        with_reducible refine (HV.out).mono ?_
        rintro e w2 ⟨rfl, hb2⟩
        have hb2z := hb2.size
        go_wp2
        go_loopw [1, 9] (fun v o wr => ∃ j : Nat, v = .string (frV (it s.data.toList j)) ∧ o = .bool (it s.data.toList j).isSome ∧ FreeAt L s.data.toList j ∧ Below w1.heap.size w1 wr) (fun v o _ => if isYes o = true then cnt L (txtOf v) + 1 else 0)
        case atStart => exact ⟨0, by rw [HI0.out]; exact congrArg Value.string (mk_self s).symm, by rw [HI0.out]; rfl, fun j hj => absurd hj (by omega), hb2⟩
        case round =>
          rename World => w3
          obtain ⟨j, rfl, rfl, hat, hb3⟩ := hrel
          have HAt := Lib.hid hat
          have hb13 := hb1.trans (hb3.mono hb1z)
          clear hat
          cases hik : it s.data.toList j with
          | none =>
            have HF : Hid (FreeIs L s.data.toList none) := Lib.hid ⟨j, HAt.out, hik, fun x hx => by cases hx⟩
            show Code.wp _ _ _ _ _
            rw [show (none : Option Bs).isSome = false from rfl, show frV none = ⟨#[]⟩ from rfl]
            clear hik
            go_wp2
            go_ret2
            exact ⟨⟨none, HF.out, rfl⟩, hb13⟩
          | some x =>
            have hmx := it_may _ _ _ hik
            have hx7 := may_len hmx
            have hxs : (mk x).size ≤ 1000 := by rw [mk_size]; omega
            have hlook := look (map_below HO.out hb3) HS.out (mk x) hxs
            have HNx := Lib.hid (next_any (mk x) w3 (HTab.out.below hb13) (by omega))
            rw [mk_list] at HNx
            have HNi := Lib.hid (it_next hik)
            rw [show (some x : Option Bs).isSome = true from rfl, show frV (some x) = mk x from rfl]
            by_cases hin : mk x ∈ L
            · rw [mem_yes hin] at hlook
              have HAt2 := Lib.hid (HAt.out.step hik hin)
              have hv : nxV x = .tuple #[.string (frV (nextL x)), .bool (nextL x).isSome] := by unfold nxV frV; cases nextL x <;> rfl
              rw [hv] at HNx
              have HMe : Hid ((if isYes (.bool (nextL x).isSome) = true then cnt L (txtOf (.string (frV (nextL x)))) + 1 else 0) < cnt L x + 1) := Lib.hid (by
                cases hnx : nextL x with
                | none => exact Nat.succ_pos _
                | some t =>
                  have h1 := cnt_next (L := L) hnx hin
                  show cnt L t + 1 < cnt L x + 1
                  omega)
              obtain ⟨T, hTT⟩ : ∃ T, T = mk x := ⟨_, rfl⟩
              obtain ⟨U, hU⟩ : ∃ U, U = frV (nextL x) := ⟨_, rfl⟩
              obtain ⟨y, hy⟩ : ∃ y, y = (nextL x).isSome := ⟨_, rfl⟩
              rw [← hTT] at hlook HNx ⊢
              rw [← hU, ← hy] at HNx HMe
              have HT := Lib.hid hTT
              have HU := Lib.hid hU
              have HYs := Lib.hid hy
              clear hTT hU hy hin hik hmx hv hxs
              go_wp2_with (go_at_call 17; ((with_reducible refine (HNx.out).mono ?_); rintro e w4 ⟨rfl, hb4⟩))
              go_roundw
              case rel => exact ⟨j + 1, by rw [HU.out, HNi.out], by rw [HYs.out, HNi.out], HAt2.out, hb3.trans (hb4.mono hb3.size)⟩
              case measure =>
                have h1 := HMe.out
                show (if isYes (.bool y) = true then cnt L (txtOf (.string U)) + 1 else 0) < cnt L (txtOf (.string T)) + 1
                rw [HT.out]
                exact h1
            · rw [mem_no hin] at hlook
              have HF : Hid (FreeIs L s.data.toList (some x)) := Lib.hid ⟨j, HAt.out, hik, fun y hy => by rw [← Option.some.inj hy]; exact hin⟩
              obtain ⟨T, hTT⟩ : ∃ T, T = mk x := ⟨_, rfl⟩
              rw [← hTT] at hlook ⊢
              have HT := Lib.hid hTT
              clear hTT hin hik hmx hxs HNx
              go_wp2
              go_ret2
              exact ⟨⟨some x, HF.out, by rw [HT.out]; rfl⟩, hb13⟩
end Go.Proofs.YtbjdfghakhplnaaDoor
