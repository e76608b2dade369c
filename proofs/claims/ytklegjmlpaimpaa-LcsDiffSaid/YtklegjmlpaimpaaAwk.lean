/-
  The contracts of Big, Distance and Far, and the chapter's examples, which every law checks.
-/
import Derived.Test.YtklegjmlpaimpaaCom
import Derived.Test.YtklegjmlpaimpaaRis
namespace Go.Proofs.Ytklegjmlpaimpaa
open Go.RowKit (wrap32 wrap64 intOf Hid Below)
open Lcs Rise

/-- What Big says of a list. -/
def BigRet (n most : Nat) (e : Ending) : Prop := ∃ b, e = .returned (.bool b) ∧ (b = false → n ≤ most)
set_option maxHeartbeats 1000000 in
theorem big_any (L : List Str) (B n c most : Nat) (z : Int) (hzm : z = most) (A : Option Addr) (w : World) (hz : ValsAt B w A n (sv L)) (hmost : most ≤ 1000) :
    Calls Try.prog 11 #[.slice A n c, .int .i64 z] w fun e w' => BigRet n most e ∧ w = w' := by
  subst hzm
  by_cases hbig : most < n
  · clear hz
    go_enter Try.func11, Try.ntmps11
    go_wp2
    go_ret
    exact ⟨⟨true, rfl, fun h => by cases h⟩, rfl⟩
  · go_enter Try.func11, Try.ntmps11
    go_wp2
    go_loop [5] (fun i => ∃ k : Nat, k ≤ n ∧ i = .int .i64 k) (fun i => n - (intOf i).toNat)
    case atStart => exact ⟨0, Nat.zero_le _, rfl⟩
    case round =>
      obtain ⟨k, hk, rfl⟩ := hrel
      by_cases hlt : k < n
      · obtain ⟨b, off, rfl, hB, h1⟩ := hz.str (Below.refl _ _) hlt
        clear hz
        generalize st L k = s at *
        by_cases hs : 100 < s.size
        · go_wp2
          go_ret
          exact ⟨⟨true, rfl, fun h => by cases h⟩, rfl⟩
        · go_wp2
          go_round
          case rel => exact ⟨k + 1, by omega, by go_num⟩
          case measure => simp [intOf]; omega
      · clear hz
        go_wp2
        go_ret
        exact ⟨⟨false, rfl, fun _ => by omega⟩, rfl⟩

/-- The number of words in no pair. -/
def dst (La Lb : List Str) : Int := (La.length : Int) + Lb.length - 2 * ((prl La Lb).length : Nat)
theorem dst_far {La Lb : List Str} (ha : La.length ≤ 256) (hb : Lb.length ≤ 256) : dst La Lb = far La Lb := by
  unfold dst far prl
  rw [if_neg (by omega), pairs_len]
  rfl
theorem prl_le (La Lb : List Str) : (prl La Lb).length ≤ La.length := by
  unfold prl
  split
  · simp
  · rw [pairs_len]; exact T_le La Lb 0 0
set_option maxHeartbeats 1000000 in
theorem dist_any (La Lb : List Str) (n m c d : Nat) (A D : Option Addr) (w : World) (ha : Sq w A n c La) (hb : Sq w D m d Lb) (hn : n ≤ 1000000) (hm : m ≤ 1000000) :
    Calls Try.prog 14 #[.slice A n c, .slice D m d] w fun e w' => e = .returned (.int .i64 (dst La Lb)) ∧ Below w.heap.size w w' := by
  have HP := Lib.hid (pairs_any La Lb n m c d A D w ha hb hn hm)
  have hle := prl_le La Lb
  have HD : Hid (dst La Lb = (n : Int) + m - 2 * ((prl La Lb).length : Nat)) := Lib.hid (by unfold dst; rw [ha.len, hb.len])
  rw [ha.len] at hle
  obtain ⟨q, hq⟩ : ∃ q, q = (prl La Lb).length := ⟨_, rfl⟩
  rw [← hq] at hle HD
  have HQ := Lib.hid hq
  clear ha hb hq
  go_enter Try.func14, Try.ntmps14
  go_wp2_with (go_at_call 12; ((with_reducible refine (HP.out).mono ?_); rintro e w1 ⟨⟨A1, n1, c1, rfl, hn1, _⟩, hb1⟩; obtain rfl : n1 = q := hn1.trans HQ.out.symm; clear hn1))
  go_ret
  exact ⟨ret_int (by rw [HD.out]), hb1⟩
set_option maxHeartbeats 1000000 in
theorem rfar_any (La Lb : List Str) (n m c d : Nat) (A D : Option Addr) (w : World) (ha : Sq w A n c La) (hb : Sq w D m d Lb) (hn : n ≤ 256) (hm : m ≤ 256) :
    Calls Try.prog 15 #[.slice A n c, .slice D m d] w fun e w' => e = .returned (.int .i64 (dst La Lb)) ∧ Below w.heap.size w w' := by
  have HP := Lib.hid (common_any La Lb n m c d A D w ha hb hn hm)
  have hle := prl_le La Lb
  have HD : Hid (dst La Lb = (n : Int) + m - 2 * ((prl La Lb).length : Nat)) := Lib.hid (by unfold dst; rw [ha.len, hb.len])
  rw [ha.len] at hle
  obtain ⟨q, hq⟩ : ∃ q, q = (prl La Lb).length := ⟨_, rfl⟩
  rw [← hq] at hle HD
  have HQ := Lib.hid hq
  clear ha hb hq
  go_enter Try.func15, Try.ntmps15
  go_wp2_with (go_at_call 13; ((with_reducible refine (HP.out).mono ?_); rintro e w1 ⟨⟨A1, n1, c1, rfl, hn1, _⟩, hb1⟩; obtain rfl : n1 = q := hn1.trans HQ.out.symm; clear hn1))
  go_ret
  exact ⟨ret_int (by rw [HD.out]), hb1⟩

theorem sq_lit (w : World) (L : List Str) (t : TypeId) (h : L.length ≤ 1000) : Sq (w.alloc (.cells (sv L).toArray t)) (some ⟨w.heap.size, 0, none⟩) L.length L.length L := by
  refine ⟨⟨⟨sv_len L, fun _ => ⟨w.heap.size, 0, rfl, by simp, fun k u hu => ?_⟩⟩, Nat.le_refl _, by omega, by omega, Nat.le_refl _⟩, fun _ => ⟨_, _, rfl⟩⟩
  rw [Nat.zero_add, World.cell?_alloc_at _ _ _ _ rfl]
  simpa using hu
theorem zi_lit (w : World) (L : List Int) (t : TypeId) : ValsAt (w.heap.size + 1) (w.alloc (.cells (zi L).toArray t)) (some ⟨w.heap.size, 0, none⟩) L.length (zi L) := by
  refine ⟨zi_len L, fun _ => ⟨w.heap.size, 0, rfl, by omega, fun k u hu => ?_⟩⟩
  rw [Nat.zero_add, World.cell?_alloc_at _ _ _ _ rfl]
  simpa using hu
abbrev ba : Str := ⟨#[97]⟩
abbrev bb : Str := ⟨#[98]⟩
abbrev bc : Str := ⟨#[99]⟩
abbrev bd : Str := ⟨#[100]⟩
theorem ex_prl : prl [ba, bb, bc] [bb, bd, bc] = [(1, 0), (2, 2)] := by decide +kernel
theorem ex_lis : lis [3, 1, 2] = [1, 2] := by decide +kernel

theorem pv_cells {w wr : World} {base n c : Nat} {A : Option Addr} {K : List (Nat × Nat)} (h : w.ownsRow base 29 2 (.slice A n c) n (pv K)) (hb : Below w.heap.size w wr) (hn : n = K.length) (h0 : 0 < n) :
    ∃ g, A = some ⟨g, 0, none⟩ ∧ ∀ j u, (pv K)[j]? = some u → wr.cell? ⟨g, j, none⟩ = some u := by
  obtain ⟨g, cap, hv, _, hlt⟩ := h.form h0
  have hA : A = some ⟨g, 0, none⟩ := by injection hv
  subst hA
  refine ⟨g, rfl, fun j u hu => ?_⟩
  have hj : j < n * 2 := by have := (List.getElem?_eq_some_iff.1 hu).1; rw [pv_len] at this; omega
  exact (hb.cell (p := ⟨g, j, none⟩) hlt).trans ((h.cellAt (g := g) j hj).trans hu)
theorem two_below (w : World) (o1 o2 : Obj) : Below w.heap.size w ((w.alloc o1).alloc o2) := (alloc_below w o1).alloc (by simp) o2
set_option maxHeartbeats 4000000 in
set_option maxRecDepth 100000 in
theorem awake_any (w : World) :
    Calls Try.prog 10 #[] w fun e w' => e = .returned (.bool true) ∧ Below w.heap.size w w' := by
  have HF : Hid (Calls Try.prog 12 #[.slice (some ⟨w.heap.size, 0, none⟩) 3 3, .slice (some ⟨w.heap.size + 1, 0, none⟩) 3 3]
      ((w.alloc (.cells #[.string ⟨#[97]⟩, .string ⟨#[98]⟩, .string ⟨#[99]⟩] 9)).alloc (.cells #[.string ⟨#[98]⟩, .string ⟨#[100]⟩, .string ⟨#[99]⟩] 9))
      fun e w' => PairsRet w.heap.size [(1, 0), (2, 2)] e w' ∧ Below w.heap.size w w') := Lib.hid (by
    have h1 := (sq_lit w [ba, bb, bc] 9 (by decide)).below (alloc_below _ (.cells #[.string ⟨#[98]⟩, .string ⟨#[100]⟩, .string ⟨#[99]⟩] 9))
    have h2 := sq_lit (w.alloc (.cells #[.string ⟨#[97]⟩, .string ⟨#[98]⟩, .string ⟨#[99]⟩] 9)) [bb, bd, bc] 9 (by decide)
    have e : (w.alloc (.cells #[.string ⟨#[97]⟩, .string ⟨#[98]⟩, .string ⟨#[99]⟩] 9)).heap.size = w.heap.size + 1 := by simp
    rw [e] at h2
    refine (pairs_any _ _ 3 3 3 3 _ _ _ h1 h2 (by omega) (by omega)).mono fun e w' ⟨hr, hb⟩ => ?_
    rw [ex_prl] at hr
    obtain ⟨A, n, c, he, h3, h6⟩ := hr
    have hbb := two_below w (.cells #[.string ⟨#[97]⟩, .string ⟨#[98]⟩, .string ⟨#[99]⟩] 9) (.cells #[.string ⟨#[98]⟩, .string ⟨#[100]⟩, .string ⟨#[99]⟩] 9)
    exact ⟨⟨A, n, c, he, h3, own_mono h6 hbb.size⟩, hbb.trans (hb.mono hbb.size)⟩)
  have HR : Hid (∀ W, Calls Try.prog 24 #[.slice (some ⟨W.heap.size, 0, none⟩) 3 3] (W.alloc (.cells #[.int .i64 3, .int .i64 1, .int .i64 2] 3))
      fun e w' => NumsRet W.heap.size [1, 2] e w' ∧ Below W.heap.size W w') := Lib.hid fun W => by
    have h1 := zi_lit W [3, 1, 2] 3
    have e : (W.alloc (.cells #[.int .i64 3, .int .i64 1, .int .i64 2] 3)).heap.size = W.heap.size + 1 := by simp
    rw [← e] at h1
    refine (lis_any [3, 1, 2] 3 3 _ _ h1 (by omega)).mono fun e w' ⟨hr, hb⟩ => ?_
    rw [ex_lis] at hr
    obtain ⟨A, n, c, he, h3, h6⟩ := hr
    have hbb := alloc_below W (.cells #[.int .i64 3, .int .i64 1, .int .i64 2] 3)
    exact ⟨⟨A, n, c, he, h3, own_mono h6 hbb.size⟩, hbb.trans (hb.mono hbb.size)⟩
  go_enter Try.func10, Try.ntmps10
  go_wp2_with fail
  with_reducible refine (HF.out).mono ?_
  rintro e w1 ⟨⟨A1, n1, c1, rfl, hn1, hown1⟩, hb1⟩
  obtain rfl : n1 = 2 := hn1
  have HO1 := Lib.hid hown1
  have hb1z := hb1.size
  clear hown1
  go_wp2_with fail
  with_reducible refine (HR.out w1).mono ?_
  rintro e w2 ⟨⟨A2, n2, c2, rfl, hn2, hown2⟩, hb2⟩
  obtain rfl : n2 = 2 := hn2
  have hb02 := hb1.trans (hb2.mono hb1z)
  have hb02z := hb02.size
  obtain ⟨g, rfl, hg⟩ := pv_cells HO1.out hb2 rfl (by omega)
  have x0 := hg 0 _ rfl
  have x1 := hg 1 _ rfl
  have x2 := hg 2 _ rfl
  have x3 := hg 3 _ rfl
  have HM : Hid (∀ W, Below w2.heap.size w2 W → Calls Try.prog 25 #[.slice A2 2 c2, .slice (some ⟨W.heap.size, 0, none⟩) 2 2] (W.alloc (.cells #[.int .i64 1, .int .i64 2] 3)) fun e w' => e = .returned (.bool true) ∧ Below W.heap.size W w') := Lib.hid fun W hW => by
    have h1 := (ValsAt.of_own hown2).below hW
    have h2 := zi_lit W [1, 2] 3
    have hbb := alloc_below W (.cells #[.int .i64 1, .int .i64 2] 3)
    rw [iv_zi] at h1
    exact (ints_any [1, 2] [1, 2] (W.heap.size + 1) 2 2 c2 2 A2 _ _ ((h1.mono hW.size).below hbb |>.mono (by omega)) h2 (by omega) (by omega) (by simp)).mono fun _ _ ⟨he, hq⟩ => ⟨he, hbb.trans ((drew_below hq).mono hbb.size)⟩
  have HM2 := Lib.hid (HM.out w2 (Below.refl _ _))
  clear hg hown2
  go_wp2_with (go_at_call 25; ((with_reducible refine (HM2.out).mono ?_); rintro e w3 ⟨rfl, hb3⟩))
  go_ret
  exact ⟨rfl, hb02.trans (hb3.mono hb02z)⟩
end Go.Proofs.Ytklegjmlpaimpaa
