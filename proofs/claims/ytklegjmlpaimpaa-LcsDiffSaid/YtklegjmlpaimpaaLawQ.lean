/-
  The walk of the law LcsDiff.
-/
import Derived.Test.YtklegjmlpaimpaaRed
import Derived.Test.YtklegjmlpaimpaaLawP
namespace Go.Proofs.Ytklegjmlpaimpaa
open Go.RowKit (wrap32 wrap64 intOf Hid Below)
open Lcs Rise

theorem apl_each {a : List Str} : ∀ (l : List Ed) (i : Nat) (f : Bool) (t : List Str), apl a i f l = some t → ∀ e ∈ l, 0 ≤ e.pos ∧ e.pos ≤ a.length ∧ ¬ (e.old = [] ∧ e.new = [])
  | [], _, _, _, _, e, he => absurd he (by simp)
  | e0 :: r, i, f, t, h, e, he => by
    obtain ⟨⟨k1, k2, _, k4, _⟩, t', h1, _⟩ := apl_cons h
    rcases List.mem_cons.1 he with rfl | he
    · exact ⟨by omega, by omega, k1⟩
    · exact apl_each r _ _ _ h1 e he
theorem len_size : ∀ l : List Ed, (∀ e ∈ l, ¬ (e.old = [] ∧ e.new = [])) → l.length ≤ size l
  | [], _ => Nat.le_refl _
  | e :: r, h => by
    have h1 := len_size r fun e he => h e (List.mem_cons_of_mem _ he)
    have h2 := h e (List.mem_cons_self ..)
    rw [← List.length_eq_zero_iff, ← List.length_eq_zero_iff] at h2
    rw [List.length_cons, size]
    omega
theorem ed_mem {L : List Ed} {k : Nat} (hk : k < L.length) : ed L k ∈ L := by
  unfold ed
  rw [List.getD, List.getElem?_eq_getElem hk]
  exact List.getElem_mem hk
theorem dff_dif {La Lb : List Str} (ha : La.length ≤ 256) (hb : Lb.length ≤ 256) : dff La Lb = dif La Lb := by
  unfold dff
  split
  · next h => exact ((dif_nil La Lb ha hb).2 h).symm
  · rfl
theorem dif_facts {La Lb : List Str} (ha : La.length ≤ 40) (hb : Lb.length ≤ 40) : (dif La Lb).length ≤ 80 ∧ Short (dif La Lb) ∧ Nums (dif La Lb) ∧ apl Lb 0 true (invW 0 (dif La Lb)) = some La := by
  have h1 := dif_size La Lb (by omega) (by omega)
  have h2 := (far_nonneg La Lb).2
  have h3 := apl_each (dif La Lb) 0 true Lb (dif_apl La Lb)
  have h4 := len_size (dif La Lb) fun e he => (h3 e he).2.2
  have hs : Short (dif La Lb) := fun k hk => by
    have x1 := size_take_succ (dif La Lb) k hk
    have x2 := size_take_le (dif La Lb) (k + 1)
    omega
  refine ⟨by omega, hs, fun k hk => ?_, ?_⟩
  · obtain ⟨x1, x2, _⟩ := h3 _ (ed_mem hk)
    omega
  · rw [invW_inv (by omega) (dif La Lb) 0 0 true 0 Lb (dif_apl La Lb) (short_mem hs) (by omega) (by omega) (by omega)]
    exact undo (dif_apl La Lb)

set_option maxHeartbeats 8000000 in
set_option maxRecDepth 100000 in
theorem lawDiff (La Lb : List Str) (n m c d : Nat) (A D : Option Addr) (w : World) (ha : Sq w A n c La) (hb : Sq w D m d Lb) :
    Calls Try.prog 4 #[.slice A n c, .slice D m d] w fun e w' => e = .returned (.bool true) ∧ Below w.heap.size w w' := by
  have HA := Lib.hid ha
  have HB := Lib.hid hb
  have HAw := Lib.hid (awake_any w)
  clear ha hb
  go_enter Try.func4, Try.ntmps4
  go_wp2_with fail
  with_reducible refine (HAw.out).mono ?_
  rintro e w1 ⟨rfl, hb1⟩
  have hb1z := hb1.size
  have HB1 := Lib.hid (big_c La n c 40 40 rfl A w1 (HA.out.below hb1) (by omega))
  go_wp2_with fail
  with_reducible refine (HB1.out).mono ?_
  rintro e w2 ⟨⟨b1, rfl, h30⟩, rfl⟩
  cases b1 with
  | true =>
    go_wp2
    go_ret
    exact ⟨rfl, hb1⟩
  | false =>
    have hn := h30 rfl
    have HB2 := Lib.hid (big_c Lb m d 40 40 rfl D w1 (HB.out.below hb1) (by omega))
    clear h30
    go_wp2_with fail
    with_reducible refine (HB2.out).mono ?_
    rintro e w2 ⟨⟨b2, rfl, h30⟩, rfl⟩
    cases b2 with
    | true =>
      go_wp2
      go_ret
      exact ⟨rfl, hb1⟩
    | false =>
      have hm := h30 rfl
      clear h30
      have la := HA.out.len
      have lb := HB.out.len
      obtain ⟨f1, f2, f3, f4⟩ := dif_facts (La := La) (Lb := Lb) (by omega) (by omega)
      have f5 := dif_apl La Lb
      have f6 := dif_nil La Lb (by omega) (by omega)
      have hDf := diff_any La Lb n m c d A D w1 (HA.out.below hb1) (HB.out.below hb1) (by omega) (by omega)
      rw [dff_dif (by omega) (by omega)] at hDf
      have hRd : ∀ W, Below w.heap.size w W → Calls Try.prog 18 #[.slice A n c, .slice D m d] W fun e w' => EdsRet (dif La Lb) e w' ∧ Below W.heap.size W w' := fun W h =>
        redits_any La Lb n m c d A D W (HA.out.below h) (HB.out.below h) (by omega) (by omega)
      generalize dif La Lb = M at *
      have HDf := Lib.hid hDf
      have HRd := Lib.hid hRd
      have HSh := Lib.hid f2
      have HNu := Lib.hid f3
      have HUn := Lib.hid f4
      have HAp := Lib.hid f5
      have HNil := Lib.hid f6
      have HMl := Lib.hid f1
      clear la lb f1 f2 f3 f4 f5 f6 hDf hRd
      go_wp2_with fail
      with_reducible refine (HDf.out).mono ?_
      rintro e w2 ⟨⟨O, p, cp, rfl, ho⟩, hb2⟩
      have hb02 := hb1.trans (hb2.mono hb1z)
      have hb02z := hb02.size
      have HO := Lib.hid ho
      have hp : p ≤ 80 := by have := ho.1; have := HMl.out; omega
      have HPl := Lib.hid ho.1
      have HR2 := Lib.hid (HRd.out w2 hb02)
      clear ho hb2
      go_wp2_with fail
      with_reducible refine (HR2.out).mono ?_
      rintro e w3 ⟨⟨O', p', cp', rfl, ho'⟩, hb3⟩
      have hpp : p' = p := by have := ho'.1; have := HPl.out; omega
      subst hpp
      have hb03 := hb02.trans (hb3.mono hb02z)
      have hb03z := hb03.size
      have HAl := Lib.hid (alike_any M p' cp cp' O O' w3 (HO.out.below hb3) ho')
      clear ho'
      go_wp2_with fail
      with_reducible refine (HAl.out).mono ?_
      rintro e w4 ⟨rfl, hb4⟩
      have hb04 := hb03.trans (hb4.mono hb03z)
      have hb04z := hb04.size
      have hc4 := hb3.trans (hb4.mono hb3.size)
      have hSm := same_c La Lb n m c d A D w4 (HA.out.below hb04) (HB.out.below hb04)
      obtain ⟨bq, hbq, hpq⟩ : ∃ bq : Bool, decide (La = Lb) = bq ∧ ((p' : Int) == 0) = bq := ⟨decide (La = Lb), rfl, by
        by_cases h : La = Lb
        · rw [decide_eq_true h, beq_iff_eq]
          have h1 := HNil.out.2 h
          have h2 := HPl.out
          rw [h1] at h2
          simp at h2
          omega
        · rw [decide_eq_false h, beq_eq_false_iff_ne]
          intro h1
          exact h (HNil.out.1 (List.eq_nil_of_length_eq_zero (by have := HPl.out; omega)))⟩
      rw [hbq] at hSm
      have HSm := Lib.hid hSm
      clear hbq hSm
      cases bq
      all_goals
        go_wp2_with fail
        with_reducible refine (HSm.out).mono ?_
        rintro e w5 ⟨rfl, hb5⟩
        have hb05 := hb04.trans (hb5.mono hb04z)
        have hb05z := hb05.size
        have hc5 := hc4.trans (hb5.mono hc4.size)
        have hAp := apply_any La M n p' c cp A O w5 (HA.out.below hb05) (HO.out.below hc5) (by omega) (by omega) HSh.out HNu.out
        rw [HAp.out] at hAp
        have HA1 := Lib.hid hAp
        clear hAp
        go_wp2_with fail
        with_reducible refine (HA1.out).mono ?_
        rintro e w6 ⟨⟨C, r, cr, rfl, hC⟩, hb6⟩
        have hb06 := hb05.trans (hb6.mono hb05z)
        have hb06z := hb06.size
        have hc6 := hc5.trans (hb6.mono hc5.size)
        have HC := Lib.hid hC
        have hr : r ≤ 40 := by have := hC.len; have := HB.out.len; omega
        have HI := Lib.hid (invert_any M p' cp O w6 (HO.out.below hc6) (by omega) HSh.out)
        clear hC
        go_wp2_with fail
        with_reducible refine (HI.out).mono ?_
        rintro e w7 ⟨⟨V, pv', cv, rfl, hv⟩, hb7⟩
        have hpv : pv' = p' := by have h4 := hv.1; rw [invW_len, HPl.out] at h4; exact h4.symm
        subst hpv
        have hb07 := hb06.trans (hb7.mono hb06z)
        have hb07z := hb07.size
        have hA2 := apply_any Lb (invW 0 M) r pv' cr cv C V w7 (HC.out.below hb7) hv (by omega) (by omega) (invW_short HSh.out 0) (invW_nums M 0)
        rw [HUn.out] at hA2
        have HA2 := Lib.hid hA2
        clear hA2 hv
        go_wp2_with fail
        with_reducible refine (HA2.out).mono ?_
        rintro e w8 ⟨⟨K, s, cs, rfl, hK⟩, hb8⟩
        have hb08 := hb07.trans (hb8.mono hb07z)
        have hb08z := hb08.size
        have hd8 := hb7.trans (hb8.mono hb7.size)
        have HK := Lib.hid hK
        have hSm := same_c Lb Lb r m cr d C D w8 (HC.out.below hd8) (HB.out.below hb08)
        rw [decide_eq_true rfl] at hSm
        have HS2 := Lib.hid hSm
        clear hSm hK
        go_wp2_with fail
        with_reducible refine (HS2.out).mono ?_
        rintro e w9 ⟨rfl, hb9⟩
        have hb09 := hb08.trans (hb9.mono hb08z)
        have hb09z := hb09.size
        have hSm := same_c La La s n cs c K A w9 (HK.out.below hb9) (HA.out.below hb09)
        rw [decide_eq_true rfl] at hSm
        have HS3 := Lib.hid hSm
        clear hSm
        go_wp2_with fail
        with_reducible refine (HS3.out).mono ?_
        rintro e w10 ⟨rfl, hb10⟩
        go_wp2
        go_ret
        exact ⟨rfl, hb09.trans (hb10.mono hb09z)⟩
end Go.Proofs.Ytklegjmlpaimpaa
