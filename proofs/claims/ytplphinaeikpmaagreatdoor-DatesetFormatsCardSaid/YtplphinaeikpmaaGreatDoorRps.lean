/-
  The contract of the reference's Parse.
-/
import Derived.Test.YtplphinaeikpmaaGreatDoorRefE
import Derived.Test.YtplphinaeikpmaaGreatDoorTxt
namespace Go.Proofs.YtplphinaeikpmaaGreatDoor
open Go.RowKit (wrap32 wrap64 intOf Hid Below)
open Spans

theorem run_ex' : ∀ (n : Nat) (l : Bs), ∃ m, m ≤ n ∧ m ≤ l.length ∧ (∀ c ∈ l.take m, isDig c = true) ∧ (m = n ∨ ∀ c, l[m]? = some c → isDig c = false)
  | 0, l => ⟨0, Nat.le_refl _, Nat.zero_le _, (fun c hc => by cases hc), Or.inl rfl⟩
  | n + 1, [] => ⟨0, Nat.zero_le _, Nat.le_refl _, (fun c hc => by cases hc), Or.inr (fun c hc => by cases hc)⟩
  | n + 1, x :: r => by
    cases hx : isDig x with
    | false => exact ⟨0, Nat.zero_le _, Nat.zero_le _, (fun c hc => by cases hc), Or.inr fun c hc => by
        have : x = c := Option.some.inj hc
        rw [← this]; exact hx⟩
    | true =>
      obtain ⟨m, h1, h2, h3, h4⟩ := run_ex' n r
      refine ⟨m + 1, by omega, by simpa using h2, fun c hc => ?_, ?_⟩
      · rw [List.take_succ_cons] at hc
        rcases List.mem_cons.1 hc with e | e
        · rw [e]; exact hx
        · exact h3 c e
      · rcases h4 with h4 | h4
        · exact Or.inl (by omega)
        · exact Or.inr fun c hc => h4 c (by simpa using hc)
theorem run_ex (l : Bs) : ∃ m, Run l m := run_ex' 8 l
theorem run_lt {l : Bs} {m n : Nat} (h : Run l m) (k : Run l n) : ¬ m < n := fun hlt => by
  obtain ⟨h1, h2, h3, h4⟩ := h
  obtain ⟨k1, k2, k3, k4⟩ := k
  rcases h4 with h4 | h4
  · omega
  · have e : l[m]? = some l[m] := List.getElem?_eq_getElem (by omega)
    have a := h4 _ e
    rw [k3 l[m] (List.mem_take_iff_getElem.2 ⟨m, by omega, rfl⟩)] at a
    cases a
theorem run_one {l : Bs} {m n : Nat} (h : Run l m) (k : Run l n) : m = n := by
  have := run_lt h k; have := run_lt k h; omega
/-- number, where m digits stand. -/
theorem number_at (s : ByteArray) (a m : Nat) (w : World) (hs : s.size ≤ 100000) (hle : a ≤ s.size) (hm : Run (rest s a) m) :
    Calls Tryz.prog 23 #[.string s, .int .i64 a] w fun e w' => e = .returned (if m = 0 then .tuple #[.int .i64 0, .int .i64 (-1)] else .tuple #[.int .i64 (val ((rest s a).take m) : Nat), .int .i64 ((a + m : Nat) : Int)]) ∧ w' = w :=
  (number_any s a w hs (by omega) hle).mono fun e w' ⟨⟨n, h, he⟩, hw⟩ => ⟨by rw [he, run_one hm h], hw⟩
theorem rest_cons (s : ByteArray) (k : Nat) (hk : k < s.size) : rest s k = s[k] :: rest s (k + 1) := by
  unfold rest
  rw [List.drop_eq_getElem_cons (by simpa using hk)]
  rfl
theorem rest_drop (s : ByteArray) (a m : Nat) : (rest s a).drop m = rest s (a + m) := by unfold rest; rw [List.drop_drop]
theorem rest_end (s : ByteArray) : rest s s.size = [] := by unfold rest; exact List.drop_of_length_le (by simp)

/-- What the reference's Parse hands back. -/
def RefRet (s : ByteArray) (e : Ending) (w' : World) : Prop :=
  (∃ (A : Option Addr) (n c : Nat) (L : List Sp), e = .returned (.tuple #[.slice A n c, .bool true]) ∧ SpansAt w'.heap.size w' A n L ∧ n ≤ 2000000 ∧ SepL (-1) L ∧ txtL L = s.data.toList) ∨
  (e = .returned (.tuple #[.slice none 0 0, .bool false]) ∧ ∀ R, SepL (-1) R → txtL R ≠ s.data.toList)
theorem u8_ne (c : UInt8) (n : Nat) (h : n < 256) (hc : ¬ ((c.toNat : Int) = n)) : c ≠ UInt8.ofNat n := fun e => hc (by rw [e, UInt8.toNat_ofNat']; omega)
theorem u8_eq (c : UInt8) (n : Nat) (h : n < 256) (hc : (c.toNat : Int) = n) : c = UInt8.ofNat n := UInt8.toNat_inj.1 (by rw [UInt8.toNat_ofNat']; omega)

theorem own_slice2 {w : World} {base e size n : Nat} {v : Value} {xs : List Value} (h : w.ownsRow base e size v (n + 1) xs) : ∃ A2 c2, (∃ g, A2 = some ⟨g, 0, none⟩) ∧ v = .slice A2 (n + 1) c2 := by
  rcases h.2 with ⟨_, h⟩ | ⟨g, cap, cur, rfl, _⟩
  · omega
  · exact ⟨_, _, ⟨g, rfl⟩, rfl⟩
set_option maxHeartbeats 8000000 in
set_option maxRecDepth 1000000 in
theorem refParse_any (s : ByteArray) (w : World) (hs : s.size ≤ 4000) :
    Calls Tryz.prog 11 #[.string s] w fun e w' => RefRet s e w' ∧ Below w.heap.size w w' := by
  obtain ⟨i0, hi, hz0, hz1, hz2⟩ := info_parts info42
  by_cases hn : s = ⟨#[110, 101, 118, 101, 114]⟩
  · subst hn
    go_enter Tryz.func11, Tryz.ntmps11
    go_wp2
    go_ret2
    exact ⟨Or.inl ⟨_, 0, 0, [], rfl, ⟨rfl, fun h => absurd h (by omega)⟩, by omega, trivial, rfl⟩, (Below.refl _ _).alloc (Nat.le_refl _) _⟩
  · have hne : (s.toList == [110, 101, 118, 101, 114]) = false := by
      rw [ByteArray.toList_eq, beq_eq_false_iff_ne]
      exact fun h => hn (never_eq s h)
    have HNo := Lib.hid (fun h => no_txt hn h)
    have HSo := Lib.hid (fun L => @no_sole s L hn)
    have HOw := Lib.hid (own_empty w 35 2)
    go_enter Tryz.func11, Tryz.ntmps11
    go_wp2
    go_loopw [4, 5] (fun v i wr => ∃ (a g cc : Nat) (K : List Sp), a ≤ s.size ∧ i = .int .i64 a ∧ v = .slice (some ⟨g, 0, none⟩) K.length cc ∧ K.length ≤ a ∧ wr.ownsRow w.heap.size 35 2 (.slice (some ⟨g, 0, none⟩) K.length cc) K.length (cells K) ∧ Below w.heap.size w wr ∧ Spans.Good s.data.toList K (rest s a)) (fun _ i _ => s.size + 1 - (intOf i).toNat)
    case atStart => exact ⟨0, w.heap.size, 0, [], Nat.zero_le _, rfl, rfl, Nat.zero_le _, HOw.out, (Below.refl _ _).alloc (Nat.le_refl _) _, good_start _⟩
    case round =>
      obtain ⟨a, g, cc, K, ha, rfl, rfl, hKa, hown, hb, hg⟩ := hrel
      have hbz := hb.size
      obtain ⟨m, hm⟩ := run_ex (rest s a)
      have HN1 := Lib.hid (number_at s a m wr (by omega) ha hm)
      have HG := Lib.hid hg
      have HM := Lib.hid hm
      have hml : a + m ≤ s.size := by have := hm.2.1; rw [rest_len] at this; omega
      have hv := val_lt8 _ hm.2.2.1 (by rw [List.length_take]; have := hm.1; omega)
      clear hg
      by_cases hm0 : m = 0
      · subst hm0
        have HR := Lib.hid (HNo.out (good_zero HG.out HM.out))
        rw [if_pos rfl] at HN1
        clear hown hm
        go_wp2_with (go_at_call 23; ((with_reducible refine (HN1.out).mono ?_); rintro e w' ⟨rfl, hw⟩; have hw := hw.symm; subst hw))
        go_ret2
        exact ⟨Or.inr ⟨rfl, HR.out⟩, hb⟩
      · rw [if_neg hm0] at HN1
        have HO : Hid (∀ W, Below wr.heap.size wr W → W.ownsRow w.heap.size 35 2 (.slice (some ⟨g, 0, none⟩) K.length cc) K.length (cells K)) := Lib.hid fun W h => own_below hown h
        have HLO := Lib.hid (fun g h => (hown.lt g h).1)
        clear hown hm
        obtain ⟨k, hk⟩ : ∃ k, k = a + m := ⟨_, rfl⟩
        have HRD : Hid ((rest s a).drop m = rest s k) := Lib.hid (by rw [rest_drop, hk])
        rw [← hk] at HN1 hml
        obtain ⟨v, hvv⟩ : ∃ v, v = val ((rest s a).take m) := ⟨_, rfl⟩
        have HV := Lib.hid hvv
        rw [← hvv] at HN1 hv
        clear hvv
        have hak : a < k := by omega
        clear hk hm0
        by_cases hend : k = s.size
        · have HMid : Hid (Spans.Mid s.data.toList K ((v : Int), (v : Int) + 1) (rest s k)) := Lib.hid (by
            have h := good_one HG.out HM.out (fun c hc => by rw [HRD.out, hend, rest_end] at hc; cases hc)
            rw [HRD.out, ← HV.out] at h
            exact h)
          obtain ⟨kk, hkk⟩ : ∃ kk, kk = k := ⟨_, rfl⟩
          go_wp2_with (first
            | (go_at_call 23; ((with_reducible refine (HN1.out).mono ?_); rintro e w' ⟨rfl, hw⟩; have hw := hw.symm; subst hw))
            | (at_builtin; refine wpList_append_own _ rfl _ _ 22 rfl w.heap.size 35 i0 (.agg #[.int .i64 0, .int .i64 0]) 2 16 Tryz.underlying22 hi hz0 hz1 hz2 rfl (by decide) _ _ _ rfl (HO.out _ (bl2' wr _ _)) ⟨wr.heap.size + 1, 0, none⟩ 1 1 [.int .i64 (v : Int), .int .i64 ((v : Int) + 1)] rfl rfl ?c1 ?c2 ?c3 ?c4 ?c5 ?_))
          case c1 => exact fun j u hj => new2' wr _ _ _ _ j u hj
          case c2 => intro u hu; simp at hu; rcases hu with rfl | rfl <;> rfl
          case c3 => unfold maxLen; omega
          case c4 => omega
          case c5 => simp; omega
          intro v' w4 hown' hgrow _
          have hbw : Below w.heap.size w w4 := Below.grown (hb.trans ((bl2' wr _ _).mono hbz)) hgrow (by simp; omega) (fun k hk => HLO.out k hk)
          obtain ⟨A2, c2, hA2, rfl⟩ := own_slice2 hown'
          obtain ⟨g2, rfl⟩ := hA2
          have HV2 : Hid (w4.ownsRow w.heap.size 35 2 (.slice (some ⟨g2, 0, none⟩) (K.length + 1) c2) (K.length + 1) (cells (K ++ [((v : Int), ((v : Int) + 1))]))) := Lib.hid (by rw [cells_app]; exact hown')
          clear hgrow hown'
          subst hkk
          by_cases hq : kk = s.size
          · have HSole : Hid (Sole s.data.toList (K ++ [((v : Int), (v : Int) + 1)])) := Lib.hid (mid_end (by have h := HMid.out; rw [hq, rest_end] at h; exact h))
            have hqb : ((kk : Int) == (s.size : Int)) = true := by rw [beq_iff_eq, hq]
            have HLn : Hid ((K ++ [((v : Int), (v : Int) + 1)]).length = K.length + 1) := Lib.hid (by simp)
            have hsp := spans_of_own HV2.out
            have HSA := Lib.hid hsp
            have HMay := Lib.hid (may_any _ _ c2 _ w4 hsp (by omega))
            have HTx : Hid (∀ W, Below w4.heap.size w4 W → Calls Tryz.prog 8 #[.slice (some ⟨g2, 0, none⟩) (K.length + 1) c2] W fun e w' => e = .returned (.string (txtB (canon (memB (K ++ [((v : Int), (v : Int) + 1)]))))) ∧ Below W.heap.size W w') := Lib.hid fun W hW => text_any _ _ c2 _ W ((hsp.below hW).mono hW.size) (by omega) (fun h => by cases h)
            have hvl : validB (K ++ [((v : Int), (v : Int) + 1)]) = sepB (-1) (K ++ [((v : Int), (v : Int) + 1)]) := by unfold validB; rw [decide_eq_true (by rw [HLn.out]; omega), Bool.true_and]
            rw [hvl] at HMay
            generalize K ++ [((v : Int), (v : Int) + 1)] = L at HSole HLn HSA HMay HTx
            clear hvl hsp HV2 HO
            generalize hKn : K.length + 1 = nn at HLn HSA HMay HTx ⊢
            have HK : Hid (nn ≤ 2000000) := Lib.hid (by omega)
            cases hv : sepB (-1) L with
            | false =>
              rw [hv] at HMay
              have HR := Lib.hid (HSo.out L HSole.out fun h => by rw [(sepB_iff L (-1)).2 h] at hv; cases hv)
              clear hv
              go_wp2_with (go_at_call 24; ((with_reducible refine (HMay.out).mono ?_); rintro e w5 ⟨rfl, hb5⟩))
              go_ret2
              exact ⟨Or.inr ⟨rfl, HR.out⟩, hbw.trans (hb5.mono hbw.size)⟩
            | true =>
              rw [hv] at HMay
              have HSep := Lib.hid ((sepB_iff L (-1)).1 hv)
              have HCa : Hid (canon (memB L) = L) := Lib.hid (canon_is ⟨HSep.out, fun _ _ _ => rfl⟩).symm
              rw [HCa.out] at HTx
              clear hv HCa
              by_cases hx : txtL L = s.data.toList
              · have hxx : ((txtB L).toList == s.toList) = true := by rw [str_eq, txtB_list, hx]; simp
                go_wp2_with (first
                  | (go_at_call 24; ((with_reducible refine (HMay.out).mono ?_); rintro e w5 ⟨rfl, hb5⟩))
                  | (go_at_call 8; ((with_reducible refine (HTx.out _ hb5).mono ?_); rintro e w6 ⟨rfl, hb6⟩)))
                go_ret2
                have hb56 := hb5.trans (hb6.mono hb5.size)
                exact ⟨Or.inl ⟨_, _, c2, L, rfl, (HSA.out.below hb56).mono hb56.size, HK.out, HSep.out, hx⟩, hbw.trans (hb56.mono hbw.size)⟩
              · have hxx : ((txtB L).toList == s.toList) = false := by rw [str_eq, txtB_list]; simp [hx]
                have HR := Lib.hid (HSo.out L HSole.out fun _ => hx)
                go_wp2_with (first
                  | (go_at_call 24; ((with_reducible refine (HMay.out).mono ?_); rintro e w5 ⟨rfl, hb5⟩))
                  | (go_at_call 8; ((with_reducible refine (HTx.out _ hb5).mono ?_); rintro e w6 ⟨rfl, hb6⟩)))
                go_ret2
                have hb56 := hb5.trans (hb6.mono hb5.size)
                exact ⟨Or.inr ⟨rfl, HR.out⟩, hbw.trans (hb56.mono hbw.size)⟩
          · omega
        · have hkl : k < s.size := by omega
          by_cases c43 : (s[k].toNat : Int) = 43
          · have HMid : Hid (Spans.Mid s.data.toList K ((v : Int), 1048577) (rest s (k + 1))) := Lib.hid (by
              have h := good_plus HG.out HM.out (by rw [HRD.out, rest_cons s k hkl, u8_eq s[k] 43 (by omega) c43]; rfl)
              rw [← HV.out] at h
              exact h)
            go_wp2_with (first
              | (go_at_call 23; ((with_reducible refine (HN1.out).mono ?_); rintro e w' ⟨rfl, hw⟩; have hw := hw.symm; subst hw))
              | (at_builtin; refine wpList_append_own _ rfl _ _ 22 rfl w.heap.size 35 i0 (.agg #[.int .i64 0, .int .i64 0]) 2 16 Tryz.underlying22 hi hz0 hz1 hz2 rfl (by decide) _ _ _ rfl (HO.out _ (bl2' wr _ _)) ⟨wr.heap.size + 1, 0, none⟩ 1 1 [.int .i64 (v : Int), .int .i64 1048577] rfl rfl ?c1 ?c2 ?c3 ?c4 ?c5 ?_))
            case c1 => exact fun j u hj => new2' wr _ _ _ _ j u hj
            case c2 => intro u hu; simp at hu; rcases hu with rfl | rfl <;> rfl
            case c3 => unfold maxLen; omega
            case c4 => omega
            case c5 => simp; omega
            intro v' w4 hown' hgrow _
            have hbw : Below w.heap.size w w4 := Below.grown (hb.trans ((bl2' wr _ _).mono hbz)) hgrow (by simp; omega) (fun k hk => HLO.out k hk)
            obtain ⟨A2, c2, hA2, rfl⟩ := own_slice2 hown'
            obtain ⟨g2, rfl⟩ := hA2
            have HV2 : Hid (w4.ownsRow w.heap.size 35 2 (.slice (some ⟨g2, 0, none⟩) (K.length + 1) c2) (K.length + 1) (cells (K ++ [((v : Int), 1048577)]))) := Lib.hid (by rw [cells_app]; exact hown')
            clear hgrow hown'
            obtain ⟨kk, hkk⟩ : ∃ kk : Nat, (k : Int) + 1 = (kk : Int) := ⟨k + 1, by omega⟩
            have hkk2 : kk = k + 1 := by omega
            rw [← hkk2] at HMid
            rw [hkk]
            have hkkl : kk ≤ s.size := by omega
            have hkkk : k < kk := by omega
            clear hkk hkk2
            by_cases hq : kk = s.size
            · have HSole : Hid (Sole s.data.toList (K ++ [((v : Int), 1048577)])) := Lib.hid (mid_end (by have h := HMid.out; rw [hq, rest_end] at h; exact h))
              have hqb : ((kk : Int) == (s.size : Int)) = true := by rw [beq_iff_eq, hq]
              have HLn : Hid ((K ++ [((v : Int), 1048577)]).length = K.length + 1) := Lib.hid (by simp)
              have hsp := spans_of_own HV2.out
              have HSA := Lib.hid hsp
              have HMay := Lib.hid (may_any _ _ c2 _ w4 hsp (by omega))
              have HTx : Hid (∀ W, Below w4.heap.size w4 W → Calls Tryz.prog 8 #[.slice (some ⟨g2, 0, none⟩) (K.length + 1) c2] W fun e w' => e = .returned (.string (txtB (canon (memB (K ++ [((v : Int), 1048577)]))))) ∧ Below W.heap.size W w') := Lib.hid fun W hW => text_any _ _ c2 _ W ((hsp.below hW).mono hW.size) (by omega) (fun h => by cases h)
              have hvl : validB (K ++ [((v : Int), 1048577)]) = sepB (-1) (K ++ [((v : Int), 1048577)]) := by unfold validB; rw [decide_eq_true (by rw [HLn.out]; omega), Bool.true_and]
              rw [hvl] at HMay
              generalize K ++ [((v : Int), 1048577)] = L at HSole HLn HSA HMay HTx
              clear hvl hsp HV2 HO
              generalize hKn : K.length + 1 = nn at HLn HSA HMay HTx ⊢
              have HK : Hid (nn ≤ 2000000) := Lib.hid (by omega)
              cases hv : sepB (-1) L with
              | false =>
                rw [hv] at HMay
                have HR := Lib.hid (HSo.out L HSole.out fun h => by rw [(sepB_iff L (-1)).2 h] at hv; cases hv)
                clear hv
                go_wp2_with (go_at_call 24; ((with_reducible refine (HMay.out).mono ?_); rintro e w5 ⟨rfl, hb5⟩))
                go_ret2
                exact ⟨Or.inr ⟨rfl, HR.out⟩, hbw.trans (hb5.mono hbw.size)⟩
              | true =>
                rw [hv] at HMay
                have HSep := Lib.hid ((sepB_iff L (-1)).1 hv)
                have HCa : Hid (canon (memB L) = L) := Lib.hid (canon_is ⟨HSep.out, fun _ _ _ => rfl⟩).symm
                rw [HCa.out] at HTx
                clear hv HCa
                by_cases hx : txtL L = s.data.toList
                · have hxx : ((txtB L).toList == s.toList) = true := by rw [str_eq, txtB_list, hx]; simp
                  go_wp2_with (first
                    | (go_at_call 24; ((with_reducible refine (HMay.out).mono ?_); rintro e w5 ⟨rfl, hb5⟩))
                    | (go_at_call 8; ((with_reducible refine (HTx.out _ hb5).mono ?_); rintro e w6 ⟨rfl, hb6⟩)))
                  go_ret2
                  have hb56 := hb5.trans (hb6.mono hb5.size)
                  exact ⟨Or.inl ⟨_, _, c2, L, rfl, (HSA.out.below hb56).mono hb56.size, HK.out, HSep.out, hx⟩, hbw.trans (hb56.mono hbw.size)⟩
                · have hxx : ((txtB L).toList == s.toList) = false := by rw [str_eq, txtB_list]; simp [hx]
                  have HR := Lib.hid (HSo.out L HSole.out fun _ => hx)
                  go_wp2_with (first
                    | (go_at_call 24; ((with_reducible refine (HMay.out).mono ?_); rintro e w5 ⟨rfl, hb5⟩))
                    | (go_at_call 8; ((with_reducible refine (HTx.out _ hb5).mono ?_); rintro e w6 ⟨rfl, hb6⟩)))
                  go_ret2
                  have hb56 := hb5.trans (hb6.mono hb5.size)
                  exact ⟨Or.inr ⟨rfl, HR.out⟩, hbw.trans (hb56.mono hbw.size)⟩
            · have hql : kk < s.size := by omega
              have hqb : ((kk : Int) == (s.size : Int)) = false := by rw [beq_eq_false_iff_ne]; omega
              by_cases h44 : (s[kk].toNat : Int) = 44
              · have HGn : Hid (Spans.Good s.data.toList (K ++ [((v : Int), 1048577)]) (rest s (kk + 1))) := Lib.hid (mid_next (by have h := HMid.out; rw [rest_cons s kk hql, u8_eq s[kk] 44 (by omega) h44] at h; exact h))
                have HLn : Hid ((K ++ [((v : Int), 1048577)]).length = K.length + 1) := Lib.hid (by simp)
                go_wp2
                go_roundw
                case rel => exact ⟨kk + 1, g2, c2, K ++ [((v : Int), 1048577)], by omega, by go_num, by rw [HLn.out], by rw [HLn.out]; omega, by rw [HLn.out]; exact HV2.out, hbw, HGn.out⟩
                case measure => simp [intOf]; omega
              · have h44b : ((s[kk].toNat : Int) == 44) = false := by rw [beq_eq_false_iff_ne]; exact h44
                have HR := Lib.hid (HNo.out (mid_bad (by have h := HMid.out; rw [rest_cons s kk hql] at h; exact h) (u8_ne s[kk] 44 (by omega) h44)))
                go_wp2
                go_ret2
                exact ⟨Or.inr ⟨rfl, HR.out⟩, hbw⟩
          · have c43b : ((s[k].toNat : Int) == 43) = false := by rw [beq_eq_false_iff_ne]; exact c43
            by_cases c45 : (s[k].toNat : Int) = 45
            · obtain ⟨m2, hm2⟩ := run_ex (rest s (k + 1))
              have HQ : Hid ((rest s a).drop m = 45 :: rest s (k + 1)) := Lib.hid (by rw [HRD.out, rest_cons s k hkl, u8_eq s[k] 45 (by omega) c45]; rfl)
              have HN2 : Hid (∀ W, Calls Tryz.prog 23 #[.string s, .int .i64 ((k : Int) + 1)] W fun e w' => e = .returned (if m2 = 0 then .tuple #[.int .i64 0, .int .i64 (-1)] else .tuple #[.int .i64 (val ((rest s (k + 1)).take m2) : Nat), .int .i64 ((k + 1 + m2 : Nat) : Int)]) ∧ w' = W) := Lib.hid fun W => number_at s (k + 1) m2 W (by omega) (by omega) hm2
              have HM2 := Lib.hid hm2
              have hm2l : k + 1 + m2 ≤ s.size := by have := hm2.2.1; rw [rest_len] at this; omega
              have hv2 := val_lt8 _ hm2.2.2.1 (by rw [List.length_take]; have := hm2.1; omega)
              clear hm2
              by_cases hm20 : m2 = 0
              · have HR := Lib.hid (HNo.out (good_minus0 HG.out HM.out HQ.out (by rw [← hm20]; exact HM2.out)))
                rw [if_pos hm20] at HN2
                go_wp2_with (first
                  | (go_at_call 23; ((with_reducible refine (HN1.out).mono ?_); rintro e w' ⟨rfl, hw⟩; have hw := hw.symm; subst hw))
                  | (go_at_call 23; ((with_reducible refine (HN2.out _).mono ?_); rintro e w' ⟨rfl, hw⟩; have hw := hw.symm; subst hw)))
                go_ret2
                exact ⟨Or.inr ⟨rfl, HR.out⟩, hb.alloc hbz _⟩
              · rw [if_neg hm20] at HN2
                obtain ⟨u, huu⟩ : ∃ u, u = val ((rest s (k + 1)).take m2) := ⟨_, rfl⟩
                obtain ⟨kk, hkk⟩ : ∃ kk, kk = k + 1 + m2 := ⟨_, rfl⟩
                have HMid : Hid (Spans.Mid s.data.toList K ((v : Int), (u : Int) + 1) (rest s kk)) := Lib.hid (by
                  have h := good_minus1 HG.out HM.out HQ.out HM2.out
                  rw [← HV.out, ← huu, rest_drop, ← hkk] at h
                  exact h)
                rw [← huu, ← hkk] at HN2
                rw [← huu] at hv2
                rw [← hkk] at hm2l
                have hkkk : k < kk := by omega
                clear huu hkk
                go_wp2_with (first
                  | (go_at_call 23; ((with_reducible refine (HN1.out).mono ?_); rintro e w' ⟨rfl, hw⟩; have hw := hw.symm; subst hw))
                  | (go_at_call 23; ((with_reducible refine (HN2.out _).mono ?_); rintro e w' ⟨rfl, hw⟩; have hw := hw.symm; subst hw))
                  | (at_builtin; refine wpList_append_own _ rfl _ _ 22 rfl w.heap.size 35 i0 (.agg #[.int .i64 0, .int .i64 0]) 2 16 Tryz.underlying22 hi hz0 hz1 hz2 rfl (by decide) _ _ _ rfl (HO.out _ (bl2' wr _ _)) ⟨wr.heap.size + 1, 0, none⟩ 1 1 [.int .i64 (v : Int), .int .i64 ((u : Int) + 1)] rfl rfl ?c1 ?c2 ?c3 ?c4 ?c5 ?_))
                case c1 => exact fun j u hj => new2' wr _ _ _ _ j u hj
                case c2 => intro u hu; simp at hu; rcases hu with rfl | rfl <;> rfl
                case c3 => unfold maxLen; omega
                case c4 => omega
                case c5 => simp; omega
                intro v' w4 hown' hgrow _
                have hbw : Below w.heap.size w w4 := Below.grown (hb.trans ((bl2' wr _ _).mono hbz)) hgrow (by simp; omega) (fun k hk => HLO.out k hk)
                obtain ⟨A2, c2, hA2, rfl⟩ := own_slice2 hown'
                obtain ⟨g2, rfl⟩ := hA2
                have HV2 : Hid (w4.ownsRow w.heap.size 35 2 (.slice (some ⟨g2, 0, none⟩) (K.length + 1) c2) (K.length + 1) (cells (K ++ [((v : Int), ((u : Int) + 1))]))) := Lib.hid (by rw [cells_app]; exact hown')
                clear hgrow hown'
                by_cases hq : kk = s.size
                · have HSole : Hid (Sole s.data.toList (K ++ [((v : Int), (u : Int) + 1)])) := Lib.hid (mid_end (by have h := HMid.out; rw [hq, rest_end] at h; exact h))
                  have hqb : ((kk : Int) == (s.size : Int)) = true := by rw [beq_iff_eq, hq]
                  have HLn : Hid ((K ++ [((v : Int), (u : Int) + 1)]).length = K.length + 1) := Lib.hid (by simp)
                  have hsp := spans_of_own HV2.out
                  have HSA := Lib.hid hsp
                  have HMay := Lib.hid (may_any _ _ c2 _ w4 hsp (by omega))
                  have HTx : Hid (∀ W, Below w4.heap.size w4 W → Calls Tryz.prog 8 #[.slice (some ⟨g2, 0, none⟩) (K.length + 1) c2] W fun e w' => e = .returned (.string (txtB (canon (memB (K ++ [((v : Int), (u : Int) + 1)]))))) ∧ Below W.heap.size W w') := Lib.hid fun W hW => text_any _ _ c2 _ W ((hsp.below hW).mono hW.size) (by omega) (fun h => by cases h)
                  have hvl : validB (K ++ [((v : Int), (u : Int) + 1)]) = sepB (-1) (K ++ [((v : Int), (u : Int) + 1)]) := by unfold validB; rw [decide_eq_true (by rw [HLn.out]; omega), Bool.true_and]
                  rw [hvl] at HMay
                  generalize K ++ [((v : Int), (u : Int) + 1)] = L at HSole HLn HSA HMay HTx
                  clear hvl hsp HV2 HO
                  generalize hKn : K.length + 1 = nn at HLn HSA HMay HTx ⊢
                  have HK : Hid (nn ≤ 2000000) := Lib.hid (by omega)
                  cases hv : sepB (-1) L with
                  | false =>
                    rw [hv] at HMay
                    have HR := Lib.hid (HSo.out L HSole.out fun h => by rw [(sepB_iff L (-1)).2 h] at hv; cases hv)
                    clear hv
                    go_wp2_with (go_at_call 24; ((with_reducible refine (HMay.out).mono ?_); rintro e w5 ⟨rfl, hb5⟩))
                    go_ret2
                    exact ⟨Or.inr ⟨rfl, HR.out⟩, hbw.trans (hb5.mono hbw.size)⟩
                  | true =>
                    rw [hv] at HMay
                    have HSep := Lib.hid ((sepB_iff L (-1)).1 hv)
                    have HCa : Hid (canon (memB L) = L) := Lib.hid (canon_is ⟨HSep.out, fun _ _ _ => rfl⟩).symm
                    rw [HCa.out] at HTx
                    clear hv HCa
                    by_cases hx : txtL L = s.data.toList
                    · have hxx : ((txtB L).toList == s.toList) = true := by rw [str_eq, txtB_list, hx]; simp
                      go_wp2_with (first
                        | (go_at_call 24; ((with_reducible refine (HMay.out).mono ?_); rintro e w5 ⟨rfl, hb5⟩))
                        | (go_at_call 8; ((with_reducible refine (HTx.out _ hb5).mono ?_); rintro e w6 ⟨rfl, hb6⟩)))
                      go_ret2
                      have hb56 := hb5.trans (hb6.mono hb5.size)
                      exact ⟨Or.inl ⟨_, _, c2, L, rfl, (HSA.out.below hb56).mono hb56.size, HK.out, HSep.out, hx⟩, hbw.trans (hb56.mono hbw.size)⟩
                    · have hxx : ((txtB L).toList == s.toList) = false := by rw [str_eq, txtB_list]; simp [hx]
                      have HR := Lib.hid (HSo.out L HSole.out fun _ => hx)
                      go_wp2_with (first
                        | (go_at_call 24; ((with_reducible refine (HMay.out).mono ?_); rintro e w5 ⟨rfl, hb5⟩))
                        | (go_at_call 8; ((with_reducible refine (HTx.out _ hb5).mono ?_); rintro e w6 ⟨rfl, hb6⟩)))
                      go_ret2
                      have hb56 := hb5.trans (hb6.mono hb5.size)
                      exact ⟨Or.inr ⟨rfl, HR.out⟩, hbw.trans (hb56.mono hbw.size)⟩
                · have hql : kk < s.size := by omega
                  have hqb : ((kk : Int) == (s.size : Int)) = false := by rw [beq_eq_false_iff_ne]; omega
                  by_cases h44 : (s[kk].toNat : Int) = 44
                  · have HGn : Hid (Spans.Good s.data.toList (K ++ [((v : Int), (u : Int) + 1)]) (rest s (kk + 1))) := Lib.hid (mid_next (by have h := HMid.out; rw [rest_cons s kk hql, u8_eq s[kk] 44 (by omega) h44] at h; exact h))
                    have HLn : Hid ((K ++ [((v : Int), (u : Int) + 1)]).length = K.length + 1) := Lib.hid (by simp)
                    go_wp2
                    go_roundw
                    case rel => exact ⟨kk + 1, g2, c2, K ++ [((v : Int), (u : Int) + 1)], by omega, by go_num, by rw [HLn.out], by rw [HLn.out]; omega, by rw [HLn.out]; exact HV2.out, hbw, HGn.out⟩
                    case measure => simp [intOf]; omega
                  · have h44b : ((s[kk].toNat : Int) == 44) = false := by rw [beq_eq_false_iff_ne]; exact h44
                    have HR := Lib.hid (HNo.out (mid_bad (by have h := HMid.out; rw [rest_cons s kk hql] at h; exact h) (u8_ne s[kk] 44 (by omega) h44)))
                    go_wp2
                    go_ret2
                    exact ⟨Or.inr ⟨rfl, HR.out⟩, hbw⟩
            · have c45b : ((s[k].toNat : Int) == 45) = false := by rw [beq_eq_false_iff_ne]; exact c45
              have HMid : Hid (Spans.Mid s.data.toList K ((v : Int), (v : Int) + 1) (rest s k)) := Lib.hid (by
                have h := good_one HG.out HM.out (fun c hc => by
                  rw [HRD.out, rest_cons s k hkl] at hc
                  have e : s[k] = c := Option.some.inj hc
                  rw [← e]
                  exact ⟨u8_ne s[k] 43 (by omega) c43, u8_ne s[k] 45 (by omega) c45⟩)
                rw [HRD.out, ← HV.out] at h
                exact h)
              obtain ⟨kk, hkk⟩ : ∃ kk, kk = k := ⟨_, rfl⟩
              go_wp2_with (first
                | (go_at_call 23; ((with_reducible refine (HN1.out).mono ?_); rintro e w' ⟨rfl, hw⟩; have hw := hw.symm; subst hw))
                | (at_builtin; refine wpList_append_own _ rfl _ _ 22 rfl w.heap.size 35 i0 (.agg #[.int .i64 0, .int .i64 0]) 2 16 Tryz.underlying22 hi hz0 hz1 hz2 rfl (by decide) _ _ _ rfl (HO.out _ (bl2' wr _ _)) ⟨wr.heap.size + 1, 0, none⟩ 1 1 [.int .i64 (v : Int), .int .i64 ((v : Int) + 1)] rfl rfl ?c1 ?c2 ?c3 ?c4 ?c5 ?_))
              case c1 => exact fun j u hj => new2' wr _ _ _ _ j u hj
              case c2 => intro u hu; simp at hu; rcases hu with rfl | rfl <;> rfl
              case c3 => unfold maxLen; omega
              case c4 => omega
              case c5 => simp; omega
              intro v' w4 hown' hgrow _
              have hbw : Below w.heap.size w w4 := Below.grown (hb.trans ((bl2' wr _ _).mono hbz)) hgrow (by simp; omega) (fun k hk => HLO.out k hk)
              obtain ⟨A2, c2, hA2, rfl⟩ := own_slice2 hown'
              obtain ⟨g2, rfl⟩ := hA2
              have HV2 : Hid (w4.ownsRow w.heap.size 35 2 (.slice (some ⟨g2, 0, none⟩) (K.length + 1) c2) (K.length + 1) (cells (K ++ [((v : Int), ((v : Int) + 1))]))) := Lib.hid (by rw [cells_app]; exact hown')
              clear hgrow hown'
              subst hkk
              by_cases hq : kk = s.size
              · have HSole : Hid (Sole s.data.toList (K ++ [((v : Int), (v : Int) + 1)])) := Lib.hid (mid_end (by have h := HMid.out; rw [hq, rest_end] at h; exact h))
                have hqb : ((kk : Int) == (s.size : Int)) = true := by rw [beq_iff_eq, hq]
                have HLn : Hid ((K ++ [((v : Int), (v : Int) + 1)]).length = K.length + 1) := Lib.hid (by simp)
                have hsp := spans_of_own HV2.out
                have HSA := Lib.hid hsp
                have HMay := Lib.hid (may_any _ _ c2 _ w4 hsp (by omega))
                have HTx : Hid (∀ W, Below w4.heap.size w4 W → Calls Tryz.prog 8 #[.slice (some ⟨g2, 0, none⟩) (K.length + 1) c2] W fun e w' => e = .returned (.string (txtB (canon (memB (K ++ [((v : Int), (v : Int) + 1)]))))) ∧ Below W.heap.size W w') := Lib.hid fun W hW => text_any _ _ c2 _ W ((hsp.below hW).mono hW.size) (by omega) (fun h => by cases h)
                have hvl : validB (K ++ [((v : Int), (v : Int) + 1)]) = sepB (-1) (K ++ [((v : Int), (v : Int) + 1)]) := by unfold validB; rw [decide_eq_true (by rw [HLn.out]; omega), Bool.true_and]
                rw [hvl] at HMay
                generalize K ++ [((v : Int), (v : Int) + 1)] = L at HSole HLn HSA HMay HTx
                clear hvl hsp HV2 HO
                generalize hKn : K.length + 1 = nn at HLn HSA HMay HTx ⊢
                have HK : Hid (nn ≤ 2000000) := Lib.hid (by omega)
                cases hv : sepB (-1) L with
                | false =>
                  rw [hv] at HMay
                  have HR := Lib.hid (HSo.out L HSole.out fun h => by rw [(sepB_iff L (-1)).2 h] at hv; cases hv)
                  clear hv
                  go_wp2_with (go_at_call 24; ((with_reducible refine (HMay.out).mono ?_); rintro e w5 ⟨rfl, hb5⟩))
                  go_ret2
                  exact ⟨Or.inr ⟨rfl, HR.out⟩, hbw.trans (hb5.mono hbw.size)⟩
                | true =>
                  rw [hv] at HMay
                  have HSep := Lib.hid ((sepB_iff L (-1)).1 hv)
                  have HCa : Hid (canon (memB L) = L) := Lib.hid (canon_is ⟨HSep.out, fun _ _ _ => rfl⟩).symm
                  rw [HCa.out] at HTx
                  clear hv HCa
                  by_cases hx : txtL L = s.data.toList
                  · have hxx : ((txtB L).toList == s.toList) = true := by rw [str_eq, txtB_list, hx]; simp
                    go_wp2_with (first
                      | (go_at_call 24; ((with_reducible refine (HMay.out).mono ?_); rintro e w5 ⟨rfl, hb5⟩))
                      | (go_at_call 8; ((with_reducible refine (HTx.out _ hb5).mono ?_); rintro e w6 ⟨rfl, hb6⟩)))
                    go_ret2
                    have hb56 := hb5.trans (hb6.mono hb5.size)
                    exact ⟨Or.inl ⟨_, _, c2, L, rfl, (HSA.out.below hb56).mono hb56.size, HK.out, HSep.out, hx⟩, hbw.trans (hb56.mono hbw.size)⟩
                  · have hxx : ((txtB L).toList == s.toList) = false := by rw [str_eq, txtB_list]; simp [hx]
                    have HR := Lib.hid (HSo.out L HSole.out fun _ => hx)
                    go_wp2_with (first
                      | (go_at_call 24; ((with_reducible refine (HMay.out).mono ?_); rintro e w5 ⟨rfl, hb5⟩))
                      | (go_at_call 8; ((with_reducible refine (HTx.out _ hb5).mono ?_); rintro e w6 ⟨rfl, hb6⟩)))
                    go_ret2
                    have hb56 := hb5.trans (hb6.mono hb5.size)
                    exact ⟨Or.inr ⟨rfl, HR.out⟩, hbw.trans (hb56.mono hbw.size)⟩
              · have hql : kk < s.size := by omega
                have hqb : ((kk : Int) == (s.size : Int)) = false := by rw [beq_eq_false_iff_ne]; omega
                by_cases h44 : (s[kk].toNat : Int) = 44
                · have HGn : Hid (Spans.Good s.data.toList (K ++ [((v : Int), (v : Int) + 1)]) (rest s (kk + 1))) := Lib.hid (mid_next (by have h := HMid.out; rw [rest_cons s kk hql, u8_eq s[kk] 44 (by omega) h44] at h; exact h))
                  have HLn : Hid ((K ++ [((v : Int), (v : Int) + 1)]).length = K.length + 1) := Lib.hid (by simp)
                  go_wp2
                  go_roundw
                  case rel => exact ⟨kk + 1, g2, c2, K ++ [((v : Int), (v : Int) + 1)], by omega, by go_num, by rw [HLn.out], by rw [HLn.out]; omega, by rw [HLn.out]; exact HV2.out, hbw, HGn.out⟩
                  case measure => simp [intOf]; omega
                · have h44b : ((s[kk].toNat : Int) == 44) = false := by rw [beq_eq_false_iff_ne]; exact h44
                  have HR := Lib.hid (HNo.out (mid_bad (by have h := HMid.out; rw [rest_cons s kk hql] at h; exact h) (u8_ne s[kk] 44 (by omega) h44)))
                  go_wp2
                  go_ret2
                  exact ⟨Or.inr ⟨rfl, HR.out⟩, hbw⟩
end Go.Proofs.YtplphinaeikpmaaGreatDoor
