/-
  The contract of the reference's Between.
-/
import Derived.Test.YtbjdfghakhplnaaDoorAll
import Derived.Test.YtbjdfghakhplnaaDoorLawM
namespace Go.Proofs.YtbjdfghakhplnaaDoor
open Go.RowKit (wrap32 wrap64 intOf Hid Below)
open Lab

def rbV : Option (Nat × Bs) → Value
  | some p => .string (mk (txt p.1 p.2))
  | none => .string ⟨#[]⟩
def RbRet (a b : Bs) (e : Ending) : Prop := ∃ R, BestL a b R ∧ e = .returned (rbV R)
theorem rb_no {a b : Bs} (h : mayL a = false ∨ mayL b = false) : RbRet a b (.returned (.string ⟨#[]⟩)) :=
  ⟨none, by unfold BestL; rw [if_neg (by rintro ⟨h1, h2⟩; rcases h with h | h <;> simp_all)], rfl⟩

set_option maxHeartbeats 4000000 in
set_option maxRecDepth 100000 in
theorem refbetween_any (a b : ByteArray) (w : World) (ha : a.size ≤ 1000) (hb : b.size ≤ 1000) :
    Calls Tryd.prog 20 #[.string a, .string b] w fun e w' => RbRet a.data.toList b.data.toList e ∧ Below w.heap.size w w' := by
  have HMa : Hid (∀ W, Calls Tryd.prog 14 #[.string a] W fun e w' => e = .returned (.bool (mayL a.data.toList)) ∧ W = w') := Lib.hid fun W => may_any a W (by omega)
  have HMb : Hid (∀ W, Calls Tryd.prog 14 #[.string b] W fun e w' => e = .returned (.bool (mayL b.data.toList)) ∧ W = w') := Lib.hid fun W => may_any b W (by omega)
  have hb0 := Below.refl w.heap.size w
  cases va : mayL a.data.toList with
  | false =>
    rw [va] at HMa
    have HR := Lib.hid (rb_no (b := b.data.toList) (Or.inl va))
    clear va
    go_enter Tryd.func20, Tryd.ntmps20
    go_wp2_with (first
      | (go_at_call 14; ((with_reducible refine (HMa.out _).mono ?_); rintro e w1 ⟨rfl, rfl⟩))
      | (go_at_call 14; ((with_reducible refine (HMb.out _).mono ?_); rintro e w1 ⟨rfl, rfl⟩)))
    go_ret
    exact ⟨HR.out, hb0⟩
  | true =>
    rw [va] at HMa
    cases vb : mayL b.data.toList with
    | false =>
      rw [vb] at HMb
      have HR := Lib.hid (rb_no (a := a.data.toList) (Or.inr vb))
      clear va vb
      go_enter Tryd.func20, Tryd.ntmps20
      go_wp2_with (first
        | (go_at_call 14; ((with_reducible refine (HMa.out _).mono ?_); rintro e w1 ⟨rfl, rfl⟩))
        | (go_at_call 14; ((with_reducible refine (HMb.out _).mono ?_); rintro e w1 ⟨rfl, rfl⟩)))
      go_ret
      exact ⟨HR.out, hb0⟩
    | true =>
      rw [vb] at HMb
      have HF : Hid (∀ R, Best (splitL a.data.toList).1 (splitL a.data.toList).2 (splitL b.data.toList).1 (splitL b.data.toList).2 R → BestL a.data.toList b.data.toList R) := Lib.hid fun R h => by
        unfold BestL; rw [if_pos ⟨va, vb⟩]; exact h
      have oa := may_ok va
      have ob := may_ok vb
      have HS := Lib.hid (refsplit_c a w (by omega))
      obtain ⟨na, hna⟩ : ∃ na, na = (splitL a.data.toList).1 := ⟨_, rfl⟩
      obtain ⟨ca, hca⟩ : ∃ ca, ca = (splitL a.data.toList).2 := ⟨_, rfl⟩
      obtain ⟨nb, hnb⟩ : ∃ nb, nb = (splitL b.data.toList).1 := ⟨_, rfl⟩
      obtain ⟨cb, hcb⟩ : ∃ cb, cb = (splitL b.data.toList).2 := ⟨_, rfl⟩
      rw [← hna, ← hca] at HS HF oa
      rw [← hnb, ← hcb] at HF ob
      obtain ⟨CA, hCA⟩ : ∃ CA, CA = mk ca := ⟨_, rfl⟩
      rw [← hCA] at HS
      have HOa := Lib.hid oa
      have HOb := Lib.hid ob
      have hn1 := oa.1.1
      have hn9 := oa.1.2.1
      have HC1 : Hid (∀ (T : ByteArray), T.size ≤ 1000 → ∀ W, Calls Tryd.prog 16 #[.string a, .string T] W fun e w' => e = .returned (.int .i64 (compL a.data.toList T.data.toList)) ∧ Below W.heap.size W w') := Lib.hid fun T hT W => refcompare_any a T W (by omega) (by omega)
      have HC2 : Hid (∀ (T : ByteArray), T.size ≤ 1000 → ∀ W, Calls Tryd.prog 16 #[.string T, .string b] W fun e w' => e = .returned (.int .i64 (compL T.data.toList b.data.toList)) ∧ Below W.heap.size W w') := Lib.hid fun T hT W => refcompare_any T b W (by omega) (by omega)
      clear va vb oa ob hna hca hnb hcb hCA
      go_enter Tryd.func20, Tryd.ntmps20
      go_wp2_with (first
        | (go_at_call 14; ((with_reducible refine (HMa.out _).mono ?_); rintro e w1 ⟨rfl, rfl⟩))
        | (go_at_call 14; ((with_reducible refine (HMb.out _).mono ?_); rintro e w1 ⟨rfl, rfl⟩))
        | (go_at_call 12; ((with_reducible refine (HS.out _ hb0).mono ?_); rintro e w1 ⟨rfl, hb1⟩)))
      go_loopw [7] (fun vi wr => ∃ k : Nat, k ≤ 4 ∧ vi = .int .i64 k ∧ Seen na ca nb cb k na 0 ∧ Below w.heap.size w wr) (fun i _ => 4 - (intOf i).toNat)
      case atStart => exact ⟨0, by omega, rfl, Seen.start _ _ _ _, hb1⟩
      case round =>
        rename World => w2
        obtain ⟨k, hk, rfl, hseen, hb2⟩ := hrel
        have HSn := Lib.hid hseen
        have hb2z := hb2.size
        clear hseen
        by_cases hk3 : k ≤ 3
        · have HAl := Lib.hid (all_any k w2 hk3)
          go_wp2_with fail
          with_reducible refine (HAl.out).mono ?_
          rintro e w3 ⟨⟨A, l, cl, rfl, hl, hval⟩, hb3⟩
          have HVl := Lib.hid hval
          have HLl := Lib.hid hl
          have hlz : l ≤ 17576 := by rw [hl]; exact all_short k hk3
          have hb3w := hb2.trans (hb3.mono hb2z)
          have hb3z := hb3w.size
          have hbr := Below.refl w3.heap.size w3
          clear hval hl
          go_wp2
          go_loopw [9] (fun vi wr => ∃ q : Nat, na ≤ q ∧ q ≤ na + 2 ∧ q ≤ 10000 ∧ vi = .int .i64 q ∧ Seen na ca nb cb k q 0 ∧ Below w3.heap.size w3 wr) (fun i _ => na + 2 - (intOf i).toNat)
          case atStart => exact ⟨na, Nat.le_refl _, by omega, by omega, rfl, HSn.out, hbr⟩
          case round =>
            rename World => w4
            obtain ⟨q, hq1, hq2, hq3, rfl, hseen, hb4⟩ := hrel
            have HSq := Lib.hid hseen
            have hb4z := hb4.size
            clear hseen
            by_cases hq : q ≤ na + 1 ∧ q ≤ 9999
            · obtain ⟨hqn, hq9⟩ := hq
              have hqd : decide ((q : Int) ≤ 9999) = true := by rw [decide_eq_true_eq]; omega
              go_wp2
              go_loopw [10] (fun vi wr => ∃ i : Nat, i ≤ l ∧ vi = .int .i64 i ∧ Seen na ca nb cb k q i ∧ Below w3.heap.size w3 wr) (fun i _ => l - (intOf i).toNat)
              case atStart => exact ⟨0, Nat.zero_le _, rfl, HSq.out, hb4⟩
              case round =>
                rename World => w5
                obtain ⟨i, hi, rfl, hseen, hb5⟩ := hrel
                have HSi := Lib.hid hseen
                have hb5z := hb5.size
                have hb5w := hb3w.trans (hb5.mono hb3z)
                clear hseen
                by_cases hil : i < l
                · obtain ⟨bb, off, rfl, hB, hcell⟩ := HVl.out.str hb5 hil
                  have hil' : i < (allL k).length := by rw [← HLl.out]; exact hil
                  rw [strs_at hil'] at hcell
                  have hE := all_size hil'
                  have hmem := (all_mem k _).1 (List.getElem_mem hil')
                  have hget : (allL k).getD i [] = (allL k)[i]'hil' := by rw [List.getD, List.getElem?_eq_getElem hil']; rfl
                  rw [hget] at hcell hE
                  have HSt : Hid (¬ Bet na ca nb cb q ((allL k)[i]'hil') → Seen na ca nb cb k q (i + 1)) := Lib.hid fun h => HSi.out.step hil' h
                  have HFo : Hid (Bet na ca nb cb q ((allL k)[i]'hil') → Best na ca nb cb (some (q, (allL k)[i]'hil'))) := Lib.hid fun h => search_found HOa.out.1 HSi.out hk3 (by omega) hq9 hil' h
                  obtain ⟨e, he⟩ : ∃ e, e = (allL k)[i]'hil' := ⟨_, rfl⟩
                  rw [← he] at hcell hE hmem HSt HFo
                  have oe : Ok q e := ⟨by omega, hq9, by rw [hmem.1]; exact hk3, hmem.2⟩
                  obtain ⟨E, hEE⟩ : ∃ E, E = mk e := ⟨_, rfl⟩
                  have hEl : E.data.toList = e := by rw [hEE, mk_list]
                  rw [← hEE] at hcell hE
                  have HTx := text_any q E w5 (by omega) (by omega) (by omega)
                  rw [hEl] at HTx
                  have hTs : (mk (txt q e)).size ≤ 1000 := by rw [mk_size]; have := may_len (may_txt oe).1; omega
                  have HX := HC1.out (mk (txt q e)) hTs
                  have HY := HC2.out (mk (txt q e)) hTs
                  rw [mk_list, HOa.out.2] at HX
                  rw [mk_list, HOb.out.2] at HY
                  have hxl := comp_lt HOa.out.1 oe
                  have hyl := comp_lt oe HOb.out.1
                  obtain ⟨T, hT⟩ : ∃ T, T = mk (txt q e) := ⟨_, rfl⟩
                  obtain ⟨x, hx⟩ : ∃ x, x = compL (txt na ca) (txt q e) := ⟨_, rfl⟩
                  obtain ⟨y, hy⟩ : ∃ y, y = compL (txt q e) (txt nb cb) := ⟨_, rfl⟩
                  rw [← hT] at HTx HX HY
                  rw [← hx] at HX hxl
                  rw [← hy] at HY hyl
                  have HTx := Lib.hid HTx
                  have HX := Lib.hid HX
                  have HY := Lib.hid HY
                  have HT := Lib.hid hT
                  clear hget he hmem oe hEE hEl hTs hT hx hy hE
                  by_cases hx0 : x < 0
                  · by_cases hy0 : y < 0
                    · have HB := Lib.hid (HFo.out ⟨hxl.1 hx0, hyl.1 hy0⟩)
                      clear hxl hyl
                      go_wp2_with (first
                        | (go_at_call 36; ((with_reducible refine (HTx.out).mono ?_); rintro e w6 ⟨rfl, hb6⟩))
                        | (go_at_call 16; ((with_reducible refine (HX.out _).mono ?_); rintro e w7 ⟨rfl, hb7⟩))
                        | (go_at_call 16; ((with_reducible refine (HY.out _).mono ?_); rintro e w8 ⟨rfl, hb8⟩)))
                      go_ret
                      have hb78 := hb7.trans (hb8.mono hb7.size)
                      have hb68 := hb6.trans (hb78.mono hb6.size)
                      exact ⟨⟨some (q, e), HF.out _ HB.out, by rw [HT.out]; rfl⟩, hb5w.trans (hb68.mono hb5w.size)⟩
                    · have HN := Lib.hid (HSt.out fun h => hy0 (hyl.2 h.2))
                      clear hxl hyl
                      go_wp2_with (first
                        | (go_at_call 36; ((with_reducible refine (HTx.out).mono ?_); rintro e w6 ⟨rfl, hb6⟩))
                        | (go_at_call 16; ((with_reducible refine (HX.out _).mono ?_); rintro e w7 ⟨rfl, hb7⟩))
                        | (go_at_call 16; ((with_reducible refine (HY.out _).mono ?_); rintro e w8 ⟨rfl, hb8⟩)))
                      have hb78 := hb7.trans (hb8.mono hb7.size)
                      have hb68 := hb6.trans (hb78.mono hb6.size)
                      go_roundw
                      case rel => exact ⟨i + 1, by omega, by go_num, HN.out, hb5.trans (hb68.mono hb5z)⟩
                      case measure => simp [intOf]; omega
                  · have HN := Lib.hid (HSt.out fun h => hx0 (hxl.2 h.1))
                    clear hxl hyl
                    go_wp2_with (first
                      | (go_at_call 36; ((with_reducible refine (HTx.out).mono ?_); rintro e w6 ⟨rfl, hb6⟩))
                      | (go_at_call 16; ((with_reducible refine (HX.out _).mono ?_); rintro e w7 ⟨rfl, hb7⟩))
                      | (go_at_call 16; ((with_reducible refine (HY.out _).mono ?_); rintro e w8 ⟨rfl, hb8⟩)))
                    have hb67 := hb6.trans (hb7.mono hb6.size)
                    go_roundw
                    case rel => exact ⟨i + 1, by omega, by go_num, HN.out, hb5.trans (hb67.mono hb5z)⟩
                    case measure => simp [intOf]; omega
                · obtain rfl : i = l := by omega
                  have HN := Lib.hid (HSi.out.row (by rw [← HLl.out]; exact Nat.le_refl _))
                  go_wp2
                  go_roundw
                  case rel => exact ⟨q + 1, by omega, by omega, by omega, by go_num, HN.out, hb5⟩
                  case measure => simp [intOf]; omega
            · have HN := Lib.hid (HSq.out.level (by omega))
              have hb4w := hb3w.trans (hb4.mono hb3z)
              by_cases hqn : q ≤ na + 1
              · have hq9 : ¬ (q ≤ 9999) := fun h => hq ⟨hqn, h⟩
                clear hq
                go_wp2
                go_roundw
                case rel => exact ⟨k + 1, by omega, by go_num, HN.out, hb4w⟩
                case measure => simp [intOf]; omega
              · clear hq
                go_wp2
                go_roundw
                case rel => exact ⟨k + 1, by omega, by go_num, HN.out, hb4w⟩
                case measure => simp [intOf]; omega
        · obtain rfl : k = 4 := by omega
          have HN := Lib.hid (search_none HOa.out.1 HSn.out)
          go_wp2
          go_ret
          exact ⟨⟨none, HF.out _ HN.out, rfl⟩, hb2⟩
end Go.Proofs.YtbjdfghakhplnaaDoor
