/-
  The walk of the law LcsApply.
-/
import Derived.Test.YtklegjmlpaimpaaApl
import Derived.Test.YtklegjmlpaimpaaAli
import Derived.Test.YtklegjmlpaimpaaLawM
namespace Go.Proofs.Ytklegjmlpaimpaa
open Go.RowKit (wrap32 wrap64 intOf Hid Below)
open Lcs Rise

theorem short_mem {L : List Ed} {B : Nat} (h : ∀ k, k < L.length → (ed L k).old.length ≤ B ∧ (ed L k).new.length ≤ B) : ∀ e ∈ L, e.old.length ≤ B ∧ e.new.length ≤ B := fun e he => by
  obtain ⟨k, hk, rfl⟩ := List.mem_iff_getElem.1 he
  have := h k hk
  unfold ed at this
  rwa [List.getD, List.getElem?_eq_getElem hk] at this
theorem apl_len {a : List Str} {B : Nat} : ∀ (l : List Ed) (i : Nat) (f : Bool) (t : List Str), apl a i f l = some t → (∀ e ∈ l, e.old.length ≤ B ∧ e.new.length ≤ B) → t.length ≤ (a.length - i) + l.length * B
  | [], i, f, t, h, _ => by
    unfold apl at h
    injection h with h
    rw [← h, List.length_drop]
    omega
  | e :: r, i, f, t, h, hB => by
    obtain ⟨⟨_, k2, _, k4, _⟩, t', h1, h2⟩ := apl_cons h
    have ih := apl_len r _ _ _ h1 fun e he => hB e (List.mem_cons_of_mem _ he)
    have hn := (hB e (List.mem_cons_self ..)).2
    rw [h2, List.length_append, List.length_append, List.length_take, List.length_drop, List.length_cons, Nat.succ_mul]
    omega
theorem invW_inv {a : List Str} (ha : a.length ≤ 1000) : ∀ (l : List Ed) (i K : Nat) (f : Bool) (s : Int) (t : List Str), apl a i f l = some t → (∀ e ∈ l, e.old.length ≤ 1000 ∧ e.new.length ≤ 1000) → -(K : Int) ≤ s → s ≤ K → K + 1000 * l.length ≤ 1000000000 → invW s l = inv s l
  | [], _, _, _, _, _, _, _, _, _, _ => rfl
  | e :: r, i, K, f, s, t, h, hB, s1, s2, hK => by
    obtain ⟨⟨_, k2, _, k4, _⟩, t', h1, _⟩ := apl_cons h
    have hn := hB e (List.mem_cons_self ..)
    rw [List.length_cons] at hK
    have ih := invW_inv ha r _ (K + 1000) _ (s + e.new.length - e.old.length) _ h1 (fun e he => hB e (List.mem_cons_of_mem _ he)) (by omega) (by omega) (by omega)
    have g : IntKind.i64.wrap (e.pos + s) = e.pos + s := by rw [IntKind.wrap_i64]; omega
    unfold invW inv
    rw [ih, g]
theorem wrap_range (z : Int) : -9223372036854775808 ≤ IntKind.i64.wrap z ∧ IntKind.i64.wrap z ≤ 9223372036854775807 := by
  rw [IntKind.wrap_i64]
  omega
theorem ed_invW : ∀ (L : List Ed) (s : Int) (k : Nat), k < L.length → (ed (invW s L) k).old = (ed L k).new ∧ (ed (invW s L) k).new = (ed L k).old ∧ -9223372036854775808 ≤ (ed (invW s L) k).pos ∧ (ed (invW s L) k).pos ≤ 9223372036854775807
  | [], _, _, h => absurd h (by simp)
  | e :: r, s, 0, _ => by
    unfold invW
    simp only [ed, List.getD_cons_zero]
    exact ⟨trivial, trivial, wrap_range _⟩
  | e :: r, s, k + 1, h => by
    unfold invW
    have := ed_invW r (s + e.new.length - e.old.length) k (by simpa using h)
    simpa only [ed, List.getD_cons_succ] using this
theorem invW_short {L : List Ed} (h : Short L) (s : Int) : Short (invW s L) := fun k hk => by
  rw [invW_len] at hk
  obtain ⟨x1, x2, _⟩ := ed_invW L s k hk
  rw [x1, x2]
  exact ⟨(h k hk).2, (h k hk).1⟩
theorem invW_nums (L : List Ed) (s : Int) : Nums (invW s L) := fun k hk => by
  rw [invW_len] at hk
  exact (ed_invW L s k hk).2.2

set_option maxHeartbeats 8000000 in
set_option maxRecDepth 100000 in
theorem lawApply (La : List Str) (L : List Ed) (n m c d : Nat) (A D : Option Addr) (w : World) (ha : Sq w A n c La) (hl : Eds w D m d L ∧ Nums L) :
    Calls Try.prog 5 #[.slice A n c, .slice D m d] w fun e w' => e = .returned (.bool true) ∧ Below w.heap.size w w' := by
  have HA := Lib.hid ha
  have HL := Lib.hid hl.1
  have HNu := Lib.hid hl.2
  have HLl := Lib.hid hl.1.1
  have HAw := Lib.hid (awake_any w)
  have hm63 : m ≤ 9223372036854775807 := by have := hl.1.2.1; have := hl.1.2.2.1; omega
  clear ha hl
  go_enter Try.func5, Try.ntmps5
  go_wp2_with fail
  with_reducible refine (HAw.out).mono ?_
  rintro e w1 ⟨rfl, hb1⟩
  have hb1z := hb1.size
  have HB1 := Lib.hid (big_c La n c 40 40 rfl A w1 (HA.out.below hb1) (by omega))
  go_wp2_with fail
  with_reducible refine (HB1.out).mono ?_
  rintro e w2 ⟨⟨b1, rfl, h30⟩, rfl⟩
  cases b1 with
  | true =>
    go_wp2
    go_ret
    exact ⟨rfl, hb1⟩
  | false =>
    have hn := h30 rfl
    clear h30
    by_cases hm : m ≤ 20
    case neg =>
      go_wp2
      go_ret
      exact ⟨rfl, hb1⟩
    go_wp2
    go_loopw [5] (fun i wr => ∃ k : Nat, k ≤ m ∧ i = .int .i64 k ∧ (∀ j, j < k → (ed L j).old.length ≤ 40 ∧ (ed L j).new.length ≤ 40) ∧ Below w.heap.size w wr) (fun i _ => m - (intOf i).toNat)
    case atStart => exact ⟨0, Nat.zero_le _, rfl, fun j h => absurd h (Nat.not_lt_zero _), hb1⟩
    case round =>
      obtain ⟨k, hk, rfl, hsh, hbr⟩ := hrel
      have hbz := hbr.size
      have HSh := Lib.hid hsh
      clear hsh
      by_cases hlt : k < m
      · obtain ⟨b, off, Ao, An, no, co, nn, cn, rfl, hblt, e0, e1, e2, so, sn⟩ := HL.out.at_ hlt
        have e1 := (hbr.cell (p := ⟨b, off + k * 3 + 1, none⟩) hblt).trans e1
        have e2 := (hbr.cell (p := ⟨b, off + k * 3 + 2, none⟩) hblt).trans e2
        have HO := Lib.hid so.len
        have HN := Lib.hid sn.len
        have HB2 := Lib.hid (big_c _ no co 40 40 rfl Ao wr (so.below hbr) (by omega))
        have HB3 := Lib.hid (big_c _ nn cn 40 40 rfl An wr (sn.below hbr) (by omega))
        clear so sn e0
        go_wp2_with fail
        with_reducible refine (HB2.out).mono ?_
        rintro e w2 ⟨⟨b1, rfl, h30⟩, rfl⟩
        cases b1 with
        | true =>
          go_wp2
          go_ret
          exact ⟨rfl, hbr⟩
        | false =>
          have hno := h30 rfl
          clear h30
          go_wp2_with fail
          with_reducible refine (HB3.out).mono ?_
          rintro e w2 ⟨⟨b2, rfl, h30⟩, rfl⟩
          cases b2 with
          | true =>
            go_wp2
            go_ret
            exact ⟨rfl, hbr⟩
          | false =>
            have hnn := h30 rfl
            clear h30
            go_wp2
            go_roundw
            case rel => exact ⟨k + 1, by omega, by go_num, fun j hj => by
              by_cases e : j < k
              · exact HSh.out j e
              · obtain rfl : j = k := by omega
                rw [HO.out, HN.out]
                exact ⟨hno, hnn⟩, hbr⟩
            case measure => simp [intOf]; omega
      · obtain rfl : k = m := by omega
        have h40 : ∀ j, j < L.length → (ed L j).old.length ≤ 40 ∧ (ed L j).new.length ≤ 40 := fun j hj => HSh.out j (by have := HLl.out; omega)
        have hS : Short L := fun j hj => by have := h40 j hj; omega
        have HInv : Hid (∀ W, Below w.heap.size w W → Calls Try.prog 21 #[.slice D k d] W fun e w' => (∃ A' c', e = .returned (.slice A' k c') ∧ Eds w' A' k c' (invW 0 L)) ∧ Below W.heap.size W w') := Lib.hid fun W h =>
          (invert_any L k d D W (HL.out.below h) (by omega) hS).mono fun e w' ⟨⟨A', n', c', h1, h2⟩, h3⟩ => by
            have : n' = k := by have h4 := h2.1; rw [invW_len, HLl.out] at h4; exact h4.symm
            subst this
            exact ⟨⟨A', c', h1, h2⟩, h3⟩
        have HBk : Hid (∀ W, Below w.heap.size w W → Calls Try.prog 23 #[.slice D k d] W fun e w' => (∃ A' c', e = .returned (.slice A' k c') ∧ Eds w' A' k c' (invW 0 L)) ∧ Below W.heap.size W w') := Lib.hid fun W h =>
          (back_any L k d D W (HL.out.below h) (by omega) hS).mono fun e w' ⟨⟨A', n', c', h1, h2⟩, h3⟩ => by
            have : n' = k := by have h4 := h2.1; rw [invW_len, HLl.out] at h4; exact h4.symm
            subst this
            exact ⟨⟨A', c', h1, h2⟩, h3⟩
        have HR1 := Lib.hid (apply_any La L n k c d A D wr (HA.out.below hbr) (HL.out.below hbr) (by omega) (by omega) hS HNu.out)
        have HR2 : Hid (∀ W, Below w.heap.size w W → Calls Try.prog 22 #[.slice A n c, .slice D k d] W fun e w' => AplRet (apl La 0 true L) e w' ∧ Below W.heap.size W w') := Lib.hid fun W h =>
          rapply_any La L n k c d A D W (HA.out.below h) (HL.out.below h) (by omega) (by omega) hS HNu.out
        have HT2 : Hid (∀ t, apl La 0 true L = some t → t.length ≤ 1000 ∧ apl t 0 true (invW 0 L) = some La ∧ Short (invW 0 L) ∧ Nums (invW 0 L)) := Lib.hid fun t ht => by
          have l1 := apl_len L 0 true t ht (short_mem h40)
          rw [HA.out.len, HLl.out] at l1
          refine ⟨by omega, ?_, invW_short hS 0, invW_nums L 0⟩
          rw [invW_inv (by rw [HA.out.len]; omega) L 0 0 true 0 t ht (short_mem hS) (by omega) (by omega) (by rw [HLl.out]; omega)]
          exact undo ht
        clear h40 hS
        go_wp2_with fail
        with_reducible refine (HR1.out).mono ?_
        rintro e w2 ⟨hret, hb2⟩
        have hb02 := hbr.trans (hb2.mono hbz)
        have hb02z := hb02.size
        have HR3 := Lib.hid (HR2.out w2 hb02)
        obtain ⟨T, hT⟩ : ∃ T, T = apl La 0 true L := ⟨_, rfl⟩
        rw [← hT] at hret HR3
        have HT := Lib.hid hT
        clear hT hb2
        cases T with
        | none =>
          obtain rfl : e = .returned (.tuple #[.slice none 0 0, .int .i64 2]) := hret
          go_wp2_with fail
          with_reducible refine (HR3.out).mono ?_
          rintro e w3 ⟨hret, hb3⟩
          obtain rfl : e = .returned (.tuple #[.slice none 0 0, .int .i64 2]) := hret
          have hb03 := hb02.trans (hb3.mono hb02z)
          have hb03z := hb03.size
          have HSm : Hid (Calls Try.prog 19 #[.slice none 0 0, .slice none 0 0] w3 fun e w' => e = .returned (.bool true) ∧ Below w3.heap.size w3 w') := Lib.hid ((same_any [] [] w3.heap.size 0 0 0 0 none none w3 (ValsAt.nil _ _ _) (ValsAt.nil _ _ _) (by omega) (by omega) (Nat.le_refl _)).mono fun _ _ ⟨he, hq⟩ => ⟨he, drew_below hq⟩)
          go_wp2_with fail
          with_reducible refine (HSm.out).mono ?_
          rintro e w4 ⟨rfl, hb4⟩
          have hb04 := hb03.trans (hb4.mono hb03z)
          have hb04z := hb04.size
          have HI1 := Lib.hid (HInv.out w4 hb04)
          go_wp2_with fail
          with_reducible refine (HI1.out).mono ?_
          rintro e w5 ⟨⟨X1, c1, rfl, x1⟩, hb5⟩
          have hb05 := hb04.trans (hb5.mono hb04z)
          have hb05z := hb05.size
          have HX1 := Lib.hid x1
          have HK1 := Lib.hid (HBk.out w5 hb05)
          clear x1
          go_wp2_with fail
          with_reducible refine (HK1.out).mono ?_
          rintro e w6 ⟨⟨X2, c2, rfl, x2⟩, hb6⟩
          have hb06 := hb05.trans (hb6.mono hb05z)
          have hb06z := hb06.size
          have HAl := Lib.hid (alike_any (invW 0 L) k c1 c2 X1 X2 w6 (HX1.out.below hb6) x2)
          clear x2
          go_wp2_with fail
          with_reducible refine (HAl.out).mono ?_
          rintro e w7 ⟨rfl, hb7⟩
          go_wp2
          go_ret
          exact ⟨rfl, hb06.trans (hb7.mono hb06z)⟩
        | some t =>
          obtain ⟨h1000, hundo, hsi, hni⟩ := HT2.out t HT.out.symm
          obtain ⟨B, q, cq, rfl, hB⟩ := hret
          have HBq := Lib.hid hB
          have hq := hB.len
          have hq1000 : q ≤ 1000 := by omega
          clear hB
          have HUn := Lib.hid hundo
          have HSi := Lib.hid hsi
          have HNi := Lib.hid hni
          have HQ := Lib.hid hq
          clear hundo hsi hni hq h1000
          go_wp2_with fail
          with_reducible refine (HR3.out).mono ?_
          rintro e w3 ⟨⟨B', q', cq', rfl, hB'⟩, hb3⟩
          have hqq : q' = q := by have := hB'.len; have := HQ.out; omega
          subst hqq
          have hb03 := hb02.trans (hb3.mono hb02z)
          have hb03z := hb03.size
          have hSm := same_c t t q' q' cq cq' B B' w3 (HBq.out.below hb3) hB'
          rw [decide_eq_true rfl] at hSm
          have HSm := Lib.hid hSm
          clear hB' hSm
          go_wp2_with fail
          with_reducible refine (HSm.out).mono ?_
          rintro e w4 ⟨rfl, hb4⟩
          have hb04 := hb03.trans (hb4.mono hb03z)
          have hb04z := hb04.size
          have hc4 := hb3.trans (hb4.mono hb3.size)
          have HI1 := Lib.hid (HInv.out w4 hb04)
          go_wp2_with fail
          with_reducible refine (HI1.out).mono ?_
          rintro e w5 ⟨⟨X1, c1, rfl, x1⟩, hb5⟩
          have hb05 := hb04.trans (hb5.mono hb04z)
          have hb05z := hb05.size
          have hc5 := hc4.trans (hb5.mono hc4.size)
          have HX1 := Lib.hid x1
          have HK1 := Lib.hid (HBk.out w5 hb05)
          clear x1
          go_wp2_with fail
          with_reducible refine (HK1.out).mono ?_
          rintro e w6 ⟨⟨X2, c2, rfl, x2⟩, hb6⟩
          have hb06 := hb05.trans (hb6.mono hb05z)
          have hb06z := hb06.size
          have hc6 := hc5.trans (hb6.mono hc5.size)
          have HAl := Lib.hid (alike_any (invW 0 L) k c1 c2 X1 X2 w6 (HX1.out.below hb6) x2)
          clear x2
          go_wp2_with fail
          with_reducible refine (HAl.out).mono ?_
          rintro e w7 ⟨rfl, hb7⟩
          have hb07 := hb06.trans (hb7.mono hb06z)
          have hb07z := hb07.size
          have hc7 := hc6.trans (hb7.mono hc6.size)
          have HI2 := Lib.hid (HInv.out w7 hb07)
          go_wp2_with fail
          with_reducible refine (HI2.out).mono ?_
          rintro e w8 ⟨⟨X3, c3, rfl, x3⟩, hb8⟩
          have hb08 := hb07.trans (hb8.mono hb07z)
          have hb08z := hb08.size
          have hc8 := hc7.trans (hb8.mono hc7.size)
          have hAp := apply_any t (invW 0 L) q' k cq c3 B X3 w8 (HBq.out.below hc8) x3 hq1000 (by omega) HSi.out HNi.out
          rw [HUn.out] at hAp
          have HAp := Lib.hid hAp
          clear x3 hAp
          go_wp2_with fail
          with_reducible refine (HAp.out).mono ?_
          rintro e w9 ⟨⟨C, r, cr, rfl, hC⟩, hb9⟩
          have hb09 := hb08.trans (hb9.mono hb08z)
          have hb09z := hb09.size
          have hSm := same_c La La r n cr c C A w9 hC (HA.out.below hb09)
          rw [decide_eq_true rfl] at hSm
          have HSm2 := Lib.hid hSm
          clear hC hSm
          go_wp2_with fail
          with_reducible refine (HSm2.out).mono ?_
          rintro e w10 ⟨rfl, hb10⟩
          go_wp2
          go_ret
          exact ⟨rfl, hb09.trans (hb10.mono hb09z)⟩
end Go.Proofs.Ytklegjmlpaimpaa
