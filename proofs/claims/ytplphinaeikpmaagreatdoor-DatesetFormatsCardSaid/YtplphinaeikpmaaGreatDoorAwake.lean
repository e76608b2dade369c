/-
  The chapter's examples, which every law checks first.
-/
import Derived.Test.YtplphinaeikpmaaGreatDoorFmt
namespace Go.Proofs.YtplphinaeikpmaaGreatDoor
open Go.RowKit (wrap32 wrap64 intOf Hid Below)
open Spans

/-- A slice that reads as these spans is handed back. -/
def RetIs (R : List Sp) (e : Ending) (w' : World) : Prop := ∃ (A : Option Addr) (n c : Nat), e = .returned (.slice A n c) ∧ SpansAt w'.heap.size w' A n R ∧ n ≤ 2000000
theorem SetRet.is {P : Int → Bool} {e : Ending} {w' : World} (h : SetRet P e w') {R : List Sp} (hR : Is R P) : RetIs R e w' := by
  obtain ⟨A, n, c, S, rfl, h1, h2, _, h4⟩ := h
  obtain rfl := h1.unique hR fun _ _ _ => rfl
  exact ⟨A, n, c, rfl, h2, h4⟩
/-- The list of the example. -/
def L0 : List Sp := [(5, 9), (7, 12), (20, 20)]
theorem is_norm : Is [(5, 12)] (memB L0) := ⟨⟨by decide, by decide, by decide, trivial⟩, fun d _ _ => by
  rw [Bool.eq_iff_iff]; simp [memB, L0]; omega⟩
theorem is_ext : Is [(5, 1048577)] (fun d => memB L0 d || memB [(8, 1048577)] d) := ⟨⟨by decide, by decide, by decide, trivial⟩, fun d _ _ => by
  rw [Bool.eq_iff_iff]; simp [memB, L0]; omega⟩
theorem is_tru : Is [(5, 8)] (fun d => memB L0 d && memB [(0, 8)] d) := ⟨⟨by decide, by decide, by decide, trivial⟩, fun d _ _ => by
  rw [Bool.eq_iff_iff]; simp [memB, L0]; omega⟩
theorem is_self {R : List Sp} {P : Int → Bool} (h : Is R P) : Is R (memB R) := ⟨h.1, fun _ _ _ => rfl⟩
theorem itoa_5 : Lib.itoa 5 = [53] := by unfold Lib.itoa; rw [if_neg (by omega)]; exact Lib.decDigits_one (by decide)
theorem itoa_7 : Lib.itoa 7 = [55] := by unfold Lib.itoa; rw [if_neg (by omega)]; exact Lib.decDigits_one (by decide)
theorem itoa_11 : Lib.itoa 11 = [49, 49] := by unfold Lib.itoa; rw [if_neg (by omega)]; exact Lib.decDigits_two (by decide) (by decide)
theorem txt_norm : fmtTxt [(5, 12)] = ⟨#[53, 45, 49, 49]⟩ := by
  have e : spanTxt 5 12 = ⟨#[53, 45, 49, 49]⟩ := by
    unfold spanTxt num
    rw [if_neg (by decide), if_neg (by decide), show (12 : Int) - 1 = 11 by decide, itoa_5, itoa_11]
    rfl
  unfold fmtTxt
  rw [if_neg (by decide)]
  simp only [List.map_cons, List.map_nil, e]
  rfl
theorem txt_ext : fmtTxt [(5, 1048577)] = ⟨#[53, 43]⟩ := by
  have e : spanTxt 5 1048577 = ⟨#[53, 43]⟩ := by
    unfold spanTxt num
    rw [if_neg (by decide), if_pos rfl, itoa_5]
    rfl
  unfold fmtTxt
  rw [if_neg (by decide)]
  simp only [List.map_cons, List.map_nil, e]
  rfl
theorem txt_tru : fmtTxt [(5, 8)] = ⟨#[53, 45, 55]⟩ := by
  have e : spanTxt 5 8 = ⟨#[53, 45, 55]⟩ := by
    unfold spanTxt num
    rw [if_neg (by decide), if_neg (by decide), show (8 : Int) - 1 = 7 by decide, itoa_5, itoa_7]
    rfl
  unfold fmtTxt
  rw [if_neg (by decide)]
  simp only [List.map_cons, List.map_nil, e]
  rfl
theorem spans_l0 (w : World) : SpansAt (w.alloc (.cells #[.int .i64 5, .int .i64 9, .int .i64 7, .int .i64 12, .int .i64 20, .int .i64 20] 35)).heap.size (w.alloc (.cells #[.int .i64 5, .int .i64 9, .int .i64 7, .int .i64 12, .int .i64 20, .int .i64 20] 35)) (some ⟨w.heap.size, 0, none⟩) 3 L0 := by
  refine ⟨rfl, fun _ => ⟨w.heap.size, 0, rfl, by simp, fun k hk => ?_⟩⟩
  rcases (by omega : k = 0 ∨ k = 1 ∨ k = 2) with rfl | rfl | rfl
  all_goals
    constructor
    · rw [World.cell?_alloc_at _ _ _ _ rfl]; rfl
    · rw [World.cell?_alloc_at _ _ _ _ rfl]; rfl
theorem same_yes (R : List Sp) (B N M ca cb : Nat) (Aa Ab : Option Addr) (w : World) (hza : SpansAt B w Aa N R) (hzb : SpansAt B w Ab M R) (hN : N ≤ 2000000) (hM : M ≤ 2000000) :
    Calls Tryz.prog 9 #[.slice Aa N ca, .slice Ab M cb] w fun e w' => e = .returned (.bool true) ∧ ∃ q, w' = w.drewN q :=
  (same_any R R B N M ca cb Aa Ab w hza hzb hN hM).mono fun e w' ⟨he, hq⟩ => ⟨by rw [he]; exact ret_bool (by simp), hq⟩
theorem below_drawn' {B : Nat} {a w w' : World} (h : Below B a w) (hq : ∃ q, w' = w.drewN q) : Below B a w' := by
  obtain ⟨q, rfl⟩ := hq
  exact below_drawn h q

set_option maxHeartbeats 1000000 in
set_option maxRecDepth 100000 in
/-- The chapter's examples hold. -/
theorem awake_any (w : World) (ht : Tab w) :
    Calls Tryz.prog 4 #[] w fun e w' => e = .returned (.bool true) ∧ Below w.heap.size w w' := by
  obtain ⟨W0, hW0⟩ : ∃ W0, W0 = w.alloc (.cells #[.int .i64 5, .int .i64 9, .int .i64 7, .int .i64 12, .int .i64 20, .int .i64 20] 35) := ⟨_, rfl⟩
  have hb0 : Below w.heap.size w W0 := by rw [hW0]; exact (Below.refl _ _).alloc (Nat.le_refl _) _
  have hz0 : SpansAt W0.heap.size W0 (some ⟨w.heap.size, 0, none⟩) 3 L0 := by rw [hW0]; exact spans_l0 w
  have ht0 : Tab W0 := ht.below hb0
  have HN : Hid (∀ W, Below W0.heap.size W0 W → Calls Tryz.prog 12 #[.slice (some ⟨w.heap.size, 0, none⟩) 3 3] W fun e w' => RetIs [(5, 12)] e w' ∧ Below W0.heap.size W0 w') := Lib.hid fun W h =>
    (norm_any L0 3 3 _ W ((hz0.below h).mono h.size) (by omega)).mono fun _ _ ⟨he, hb⟩ => ⟨he.is is_norm, h.trans (hb.mono h.size)⟩
  have HF : Hid (∀ W, Below W0.heap.size W0 W → Calls Tryz.prog 6 #[.slice (some ⟨w.heap.size, 0, none⟩) 3 3] W fun e w' => e = .returned (.string ⟨#[53, 45, 49, 49]⟩) ∧ Below W0.heap.size W0 w') := Lib.hid fun W h => by
    rw [← txt_norm]
    exact (format_any L0 _ 3 3 _ W (ht0.below h) ((hz0.below h).mono h.size) (by omega) is_norm).mono fun _ _ ⟨he, hb⟩ => ⟨he, h.trans (hb.mono h.size)⟩
  have HE : Hid (∀ W, Below W0.heap.size W0 W → Calls Tryz.prog 13 #[.slice (some ⟨w.heap.size, 0, none⟩) 3 3, .int .i64 8] W fun e w' => RetIs [(5, 1048577)] e w' ∧ Below W0.heap.size W0 w') := Lib.hid fun W h =>
    (extendfrom_any L0 3 3 _ 8 W ((hz0.below h).mono h.size) (by omega)).mono fun _ _ ⟨he, hb⟩ => ⟨he.is is_ext, h.trans (hb.mono h.size)⟩
  have HU : Hid (∀ W, Below W0.heap.size W0 W → Calls Tryz.prog 14 #[.slice (some ⟨w.heap.size, 0, none⟩) 3 3, .int .i64 8] W fun e w' => RetIs [(5, 8)] e w' ∧ Below W0.heap.size W0 w') := Lib.hid fun W h =>
    (truncate_any L0 3 3 _ 8 W ((hz0.below h).mono h.size) (by omega)).mono fun _ _ ⟨he, hb⟩ => ⟨he.is is_tru, h.trans (hb.mono h.size)⟩
  have HFE : Hid (∀ W A n c, Below W0.heap.size W0 W → SpansAt W.heap.size W A n [(5, 1048577)] → n ≤ 2000000 → Calls Tryz.prog 6 #[.slice A n c] W fun e w' => e = .returned (.string ⟨#[53, 43]⟩) ∧ Below W0.heap.size W0 w') := Lib.hid fun W A n c h hz hn => by
    rw [← txt_ext]
    exact (format_any _ _ n c A W (ht0.below h) hz hn (is_self is_ext)).mono fun _ _ ⟨he, hb⟩ => ⟨he, h.trans (hb.mono h.size)⟩
  have HFU : Hid (∀ W A n c, Below W0.heap.size W0 W → SpansAt W.heap.size W A n [(5, 8)] → n ≤ 2000000 → Calls Tryz.prog 6 #[.slice A n c] W fun e w' => e = .returned (.string ⟨#[53, 45, 55]⟩) ∧ Below W0.heap.size W0 w') := Lib.hid fun W A n c h hz hn => by
    rw [← txt_tru]
    exact (format_any _ _ n c A W (ht0.below h) hz hn (is_self is_tru)).mono fun _ _ ⟨he, hb⟩ => ⟨he, h.trans (hb.mono h.size)⟩
  have HV : Hid (∀ W A n c, Below W0.heap.size W0 W → SpansAt W.heap.size W A n [(5, 12)] → n ≤ 2000000 → Calls Tryz.prog 15 #[.slice A n c] W fun e w' => e = .returned (.bool true) ∧ Below W0.heap.size W0 w') := Lib.hid fun W A n c h hz hn =>
    (valid_any _ n c A W hz (by unfold maxLen; omega)).mono fun _ _ ⟨he, hb⟩ => ⟨he, h.trans (hb.mono h.size)⟩
  have HB0 := Lib.hid hb0
  clear hz0 ht0 hb0 ht
  go_enter Tryz.func4, Tryz.ntmps4
  go_wp2_with fail
  rw [← hW0]
  clear hW0
  refine (HN.out _ (Below.refl _ _)).mono ?_
  rintro e w1 ⟨⟨A1, n1, c1, rfl, z1, l1⟩, hb1⟩
  have hz1 := z1.below ((Below.refl w1.heap.size w1).alloc (Nat.le_refl _) (.cells #[.int .i64 5, .int .i64 12] 35))
  have HSame : Hid (Calls Tryz.prog 9 #[.slice A1 n1 c1, .slice (some ⟨w1.heap.size, 0, none⟩) 1 1] (w1.alloc (.cells #[.int .i64 5, .int .i64 12] 35)) fun e w' => e = .returned (.bool true) ∧ Below W0.heap.size W0 w') := Lib.hid
    ((same_yes [(5, 12)] _ n1 1 c1 1 A1 _ _ (hz1.mono (by simp)) (one_span w1 5 12 _) l1 (by omega)).mono fun _ _ ⟨he, hq⟩ => ⟨he, below_drawn' (hb1.alloc hb1.size _) hq⟩)
  clear z1 hz1
  go_wp2_with (first
    | (go_at_call 9; ((with_reducible refine (HSame.out).mono ?_); rintro e w2 ⟨rfl, hb2⟩))
    | (go_at_call 6; ((with_reducible refine (HF.out _ hb2).mono ?_); rintro e w3 ⟨rfl, hb3⟩))
    | (go_at_call 13; ((with_reducible refine (HE.out _ hb3).mono ?_); rintro e w4 ⟨⟨A4, n4, c4, rfl, z4, l4⟩, hb4⟩; have Z4 := Lib.hid z4; clear z4))
    | (go_at_call 6; ((with_reducible refine (HFE.out _ A4 n4 c4 hb4 Z4.out l4).mono ?_); rintro e w5 ⟨rfl, hb5⟩))
    | (go_at_call 14; ((with_reducible refine (HU.out _ hb5).mono ?_); rintro e w6 ⟨⟨A6, n6, c6, rfl, z6, l6⟩, hb6⟩; have Z6 := Lib.hid z6; clear z6))
    | (go_at_call 6; ((with_reducible refine (HFU.out _ A6 n6 c6 hb6 Z6.out l6).mono ?_); rintro e w7 ⟨rfl, hb7⟩))
    | (go_at_call 12; ((with_reducible refine (HN.out _ hb7).mono ?_); rintro e w8 ⟨⟨A8, n8, c8, rfl, z8, l8⟩, hb8⟩; have Z8 := Lib.hid z8; clear z8))
    | (go_at_call 15; ((with_reducible refine (HV.out _ A8 n8 c8 hb8 Z8.out l8).mono ?_); rintro e w9 ⟨rfl, hb9⟩)))
  go_ret
  exact ⟨rfl, HB0.out.trans (hb9.mono HB0.out.size)⟩
end Go.Proofs.YtplphinaeikpmaaGreatDoor
