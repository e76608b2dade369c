/-
  The contract of the reference's list of all suffixes of a length.
-/
import Derived.Test.YtbjdfghakhplnaaDoorSq
namespace Go.Proofs.YtbjdfghakhplnaaDoor
open Go.RowKit (wrap32 wrap64 intOf Hid Below)
open Lab

/-- The i-th capital, and the list as far as the loops have built it. -/
def cap (j : Nat) : UInt8 := UInt8.ofNat (65 + j)
theorem caps_len : capsL.length = 26 := by unfold capsL; simp
theorem caps_get {j : Nat} (h : j < 26) : capsL[j]? = some (cap j) := by
  unfold capsL cap
  rw [List.getElem?_map, List.getElem?_range h]
  rfl
def moreL (R : List Bs) (k j : Nat) : List Bs := (R.take k).flatMap (fun s => capsL.map fun x => s ++ [x]) ++ (capsL.take j).map fun x => R.getD k [] ++ [x]
theorem more_step {R : List Bs} {k j : Nat} (h : j < 26) : moreL R k (j + 1) = moreL R k j ++ [R.getD k [] ++ [cap j]] := by
  unfold moreL
  rw [List.take_add_one, caps_get h]
  simp
theorem more_row {R : List Bs} {k : Nat} (h : k < R.length) : moreL R k 26 = moreL R (k + 1) 0 := by
  unfold moreL
  rw [show capsL.take 26 = capsL from List.take_of_length_le (by rw [caps_len]; omega), List.take_add_one, List.getElem?_eq_getElem h, List.getD, List.getElem?_eq_getElem h, List.flatMap_append]
  simp only [Option.toList_some, List.flatMap_cons, List.flatMap_nil, List.append_nil, Option.getD_some, List.take_zero, List.map_nil]
theorem more_start (R : List Bs) : moreL R 0 0 = [] := rfl
theorem more_end (i : Nat) : moreL (allL i) (allL i).length 0 = allL (i + 1) := by
  unfold moreL
  rw [List.take_length]
  simp [allL]
theorem flat_len (c : Nat) (f : Bs → List Bs) (h : ∀ s, (f s).length = c) : ∀ R : List Bs, (R.flatMap f).length = c * R.length
  | [] => rfl
  | s :: R => by rw [List.flatMap_cons, List.length_append, h, flat_len c f h R, List.length_cons, Nat.mul_succ]; omega
theorem more_len {R : List Bs} {k j : Nat} (hk : k ≤ R.length) (hj : j ≤ 26) : (moreL R k j).length = 26 * k + j := by
  unfold moreL
  rw [List.length_append, flat_len 26 _ (fun s => by rw [List.length_map, caps_len]), List.length_map, List.length_take, List.length_take, caps_len]
  omega
/-- The strings of a list of texts. -/
def strsOf (R : List Bs) : List Str := R.map mk
theorem strs_len (R : List Bs) : (strsOf R).length = R.length := by simp [strsOf]
theorem strs_app (a b : List Bs) : strsOf (a ++ b) = strsOf a ++ strsOf b := by simp [strsOf]
theorem strs_at {R : List Bs} {k : Nat} (h : k < R.length) : st (strsOf R) k = mk (R.getD k []) := by
  unfold st strsOf
  rw [List.getD, List.getElem?_map, List.getD, List.getElem?_eq_getElem h]
  rfl
theorem all_short (k : Nat) (h : k ≤ 3) : (allL k).length ≤ 17576 := by
  rw [all_len]
  exact Nat.le_trans (Nat.pow_le_pow_right (by omega) h) (by decide)
theorem all_short2 (k : Nat) (h : k < 3) : (allL k).length ≤ 676 := by
  rw [all_len]
  exact Nat.le_trans (Nat.pow_le_pow_right (by omega) (show k ≤ 2 by omega)) (by decide)
theorem all_size {k i : Nat} (h : i < (allL k).length) : (mk ((allL k).getD i [])).size = k := by
  rw [mk_size, List.getD, List.getElem?_eq_getElem h]
  exact ((all_mem k _).1 (List.getElem_mem h)).1
/-- What all hands back. -/
def AllRet (k : Nat) (e : Ending) (w' : World) : Prop := ∃ A n c, e = .returned (.slice A n c) ∧ n = (allL k).length ∧ ValsAt w'.heap.size w' A n (sv (strsOf (allL k)))

set_option maxHeartbeats 4000000 in
set_option maxRecDepth 100000 in
theorem all_any (n : Nat) (w : World) (hn : n ≤ 3) :
    Calls Tryd.prog 37 #[.int .i64 (n : Int)] w fun e w' => AllRet n e w' ∧ Below w.heap.size w w' := by
  obtain ⟨i0, hi, hz0, hz1, hz2⟩ := info_parts info_str
  have HStart : Hid (ValsAt (w.heap.size + 1) (w.alloc (.cells #[.string ⟨#[]⟩] 9)) (some ⟨w.heap.size, 0, none⟩) 1 (sv (strsOf (allL 0)))) := Lib.hid (vals_new _ rfl _ _)
  have hb00 := alloc_below w (.cells #[.string ⟨#[]⟩] 9)
  go_enter Tryd.func37, Tryd.ntmps37
  go_wp2
  go_loopw [3, 4] (fun vo vi wr => ∃ (i q c : Nat) (A : Option Addr), i ≤ n ∧ vi = .int .i64 i ∧ vo = .slice A q c ∧ q = (allL i).length ∧ ValsAt wr.heap.size wr A q (sv (strsOf (allL i))) ∧ Below w.heap.size w wr) (fun _ i _ => n - (intOf i).toNat)
  case atStart => exact ⟨0, 1, 1, some ⟨w.heap.size, 0, none⟩, Nat.zero_le _, rfl, rfl, rfl, by simpa using HStart.out, hb00⟩
  case round =>
    rename World => w1
    obtain ⟨i, q, c, A, hin, rfl, rfl, hq, hval, hb⟩ := hrel
    have HV := Lib.hid hval
    have HQ := Lib.hid hq
    have hbz := hb.size
    by_cases hlt : i < n
    · have hq26 : q ≤ 676 := by rw [hq]; exact all_short2 i (by omega)
      have HOw := Lib.hid (own_empty w1 9 1)
      have hb1 := alloc_below w1 (.cells #[] 9)
      clear hval hq
      go_wp2
      go_loopw [5, 6] (fun vo vi wk => ∃ (k q2 c2 : Nat) (A2 : Option Addr), k ≤ q ∧ vi = .int .i64 k ∧ vo = .slice A2 q2 c2 ∧ q2 = 26 * k ∧ wk.ownsRow w1.heap.size 9 1 (.slice A2 q2 c2) q2 (sv (strsOf (moreL (allL i) k 0))) ∧ Below w1.heap.size w1 wk) (fun _ i _ => q - (intOf i).toNat)
      case atStart => exact ⟨0, 0, 0, some ⟨w1.heap.size, 0, none⟩, Nat.zero_le _, rfl, rfl, rfl, HOw.out, hb1⟩
      case round =>
        rename World => wk
        obtain ⟨k, q2, c2, A2, hkq, rfl, rfl, hq2, hown, hbk⟩ := hrel
        have HOk := Lib.hid hown
        have HQ2 := Lib.hid hq2
        have hbkz := hbk.size
        by_cases hk : k < q
        · clear hown hq2
          go_wp2
          go_loopw [5, 7] (fun vo vi wj => ∃ (j q3 c3 : Nat) (A3 : Option Addr), j ≤ 26 ∧ vi = .int .i64 ((65 + j : Nat) : Int) ∧ vo = .slice A3 q3 c3 ∧ q3 = 26 * k + j ∧ wj.ownsRow w1.heap.size 9 1 (.slice A3 q3 c3) q3 (sv (strsOf (moreL (allL i) k j))) ∧ Below w1.heap.size w1 wj) (fun _ i _ => 91 - (intOf i).toNat)
          case atStart => exact ⟨0, q2, c2, A2, Nat.zero_le _, rfl, rfl, by rw [HQ2.out, Nat.add_zero], HOk.out, hbk⟩
          case round =>
            rename World => wj
            obtain ⟨j, q3, c3, A3, hj, rfl, rfl, hq3, hown, hbj⟩ := hrel
            have HQ3 := Lib.hid hq3
            have hbjz := hbj.size
            have HOj := Lib.hid hown
            by_cases hj26 : j < 26
            · obtain ⟨b, off, rfl, hB, hcell⟩ := HV.out.str (Below.refl _ _) hk
              rw [strs_at (by rw [← HQ.out]; exact hk)] at hcell
              obtain ⟨E, hE⟩ : ∃ E, E = mk ((allL i).getD k []) := ⟨_, rfl⟩
              have hEs : E.size ≤ 3 := by rw [hE, all_size (by rw [← HQ.out]; exact hk)]; omega
              rw [← hE] at hcell
              obtain ⟨ON, hON⟩ : ∃ ON, ON = one (65 + (j : Int)) := ⟨_, rfl⟩
              have hONs : ON.size = 1 := by rw [hON]; rfl
              have cat1 := cat_run E ON (by omega)
              have hcv := fun W => conv_new W (65 + (j : Int)) 5
              have hcv1 := fun W => conv_drew W (65 + (j : Int)) 5
              rw [← hON] at hcv hcv1
              have x1 : IntKind.u8.wrap (65 + (j : Int)) = 65 + (j : Int) := by rw [IntKind.wrap_u8]; omega
              have HW : Hid (∀ W, Below wj.heap.size wj W → W.ownsRow w1.heap.size 9 1 (.slice A3 q3 c3) q3 (sv (strsOf (moreL (allL i) k j)))) := Lib.hid fun W h => own_below hown h
              have HM : Hid (sv (strsOf (moreL (allL i) k (j + 1))) = sv (strsOf (moreL (allL i) k j)) ++ [.string (E ++ ON)]) := Lib.hid (by
                rw [more_step hj26, strs_app, sv_app]
                congr 1
                show [Value.string (mk ((allL i).getD k [] ++ [cap j]))] = _
                have : mk ((allL i).getD k [] ++ [cap j]) = E ++ ON := by
                  symm
                  apply eq_mk
                  rw [cat_list, hE, mk_list, hON, one_list, show (65 + (j : Int)).toNat = 65 + j by omega]
                  rfl
                rw [this])
              have hcb : Hid (∀ W, Below w1.heap.size w1 W → Below w1.heap.size w1 W ∧ W.cell? ⟨b, off + k, none⟩ = some (.string E)) := Lib.hid fun W h => held h hB hcell
              have hc1 := (hcb.out _ hbj).2
              have hq3' : q3 ≤ 20000 := by have := HQ3.out; omega
              clear hown hq3 hE hON
              go_wp2
              have hca := fun o => (hcb.out _ (hbj.alloc hbjz o)).2
              go_region_law
                ((refine step_append_vals _ (by rfl) _ _ _ (by rfl) w1.heap.size 9 i0 (.string ⟨#[]⟩) 16 Tryd.underlying34 hi hz0 hz1 hz2 rfl (.slice A3 q3 c3) q3 (sv (strsOf (moreL (allL i) k j))) (by rfl) (HW.out _ (by repeat (first | exact Below.refl _ _ | exact hbj | refine Below.drew ?_ | refine Below.alloc ?_ (by first | exact Nat.le_refl _ | exact hbjz | (simp; done) | (simp; omega)) _))) (wj.heap.size + 1 + 1) (some ⟨wj.heap.size + 1, 0, none⟩) 1 1 [.string (E ++ ON)] (by rfl) (by first | exact vals_new _ (by simp) _ _ | exact vals_drew (vals_new _ (by simp) _ _)) (by intro u hu; simp at hu; subst hu; rfl) (by unfold maxLen; omega) (by omega) (by simp; omega) ?_; intro A4 c4 w4 hown4 hg4; have hS3 : Below w1.heap.size w1 w4 := below_own (HW.out _ (by repeat (first | exact Below.refl _ _ | exact hbj | refine Below.drew ?_ | refine Below.alloc ?_ (by first | exact Nat.le_refl _ | exact hbjz | (simp; done) | (simp; omega)) _))) (by repeat (first | exact Below.refl _ _ | exact hbj | refine Below.drew ?_ | refine Below.alloc ?_ (by first | exact Nat.le_refl _ | exact hbjz | (simp; done) | (simp; omega)) _)) (by simp; omega) hg4))
              all_goals
                rw [← HM.out] at hown4
                have HO4 := Lib.hid hown4
                clear hown4 hg4
                go_wp2
                go_roundw
                case rel => exact ⟨j + 1, q3 + 1, c4, A4, by omega, by go_num, rfl, by have := HQ3.out; omega, by first | exact HO4.out | exact HO4.out.drew, by first | exact hS3 | exact hS3.drew⟩
                case measure => simp [intOf]; omega
            · obtain rfl : j = 26 := by omega
              have HR := Lib.hid (more_row (R := allL i) (k := k) (by rw [← HQ.out]; exact hk))
              clear hown hq3
              go_wp2
              go_roundw
              case rel => exact ⟨k + 1, q3, c3, A3, by omega, by go_num, rfl, by rw [HQ3.out]; omega, by rw [← HR.out]; exact HOj.out, hbj⟩
              case measure => simp [intOf]; omega
        · obtain rfl : k = q := by omega
          have HVn := Lib.hid (ValsAt.of_own hown)
          clear hown hq2
          go_wp2
          go_roundw
          case rel => exact ⟨i + 1, q2, c2, A2, by omega, by go_num, rfl, by rw [HQ2.out, ← more_end, more_len (Nat.le_refl _) (by omega), HQ.out]; rfl, by rw [← more_end, ← HQ.out]; exact HVn.out, hb.trans (hbk.mono hbz)⟩
          case measure => simp [intOf]; omega
    · obtain rfl : i = n := by omega
      clear hval hq
      go_wp2
      go_ret
      exact ⟨⟨A, q, c, rfl, HQ.out, HV.out⟩, hb⟩
end Go.Proofs.YtbjdfghakhplnaaDoor
