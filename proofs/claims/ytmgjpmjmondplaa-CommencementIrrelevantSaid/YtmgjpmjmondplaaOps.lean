/-
  The contracts of Union, Intersect, Subtract, Truncate and ExtendFrom.
-/
import Derived.Test.YtmgjpmjmondplaaMerge
namespace Go.Proofs.Ytmgjpmjmondplaa
open Go.RowKit (wrap32 wrap64 intOf Hid Below)
open Spans
theorem union_keep (x y : Bool) (W : World) : Calls Try.prog 42 #[.bool x, .bool y] W fun e w' => e = .returned (.bool (x || y)) ∧ w' = W := by
 cases x <;> cases y
 all_goals
   go_enter Try.func42, Try.ntmps42
   go_wp2
   go_ret
   exact ⟨rfl, rfl⟩
set_option maxHeartbeats 400000 in
theorem union_any (La Lb : List Sp) (N M ca cb : Nat) (Aa Ab : Option Addr) (w : World) (hza : SpansAt w.heap.size w Aa N La) (hzb : SpansAt w.heap.size w Ab M Lb) (hN : N ≤ 2000000) (hM : M ≤ 2000000) :
   Calls Try.prog 36 #[.slice Aa N ca, .slice Ab M cb] w fun e w' => SetRet w.heap.size (fun d => memB La d || memB Lb d) e w' ∧ Below w.heap.size w w' := by
 have HM := Lib.hid (merge_any 42 (fun x y => x || y) La Lb N M ca cb Aa Ab w hza hzb hN hM (enters_of Try.func42 (by kernel_rfl) rfl) union_keep)
 clear hza hzb
 go_enter Try.func36, Try.ntmps36
 go_wp2_with (go_at_call 41; ((with_reducible refine (HM.out).mono ?_); rintro e w1 ⟨⟨A9, n9, c9, R9, rfl, q1, q2, q3, q4⟩, hb⟩; have HQ := Lib.hid (And.intro q1 q2); clear q1 q2))
 go_ret
 exact ⟨⟨A9, n9, c9, R9, rfl, HQ.out.1, HQ.out.2, q3, q4⟩, hb⟩
theorem intersect_keep (x y : Bool) (W : World) : Calls Try.prog 49 #[.bool x, .bool y] W fun e w' => e = .returned (.bool (x && y)) ∧ w' = W := by
 cases x <;> cases y
 all_goals
   go_enter Try.func49, Try.ntmps49
   go_wp2
   go_ret
   exact ⟨rfl, rfl⟩
set_option maxHeartbeats 400000 in
theorem intersect_any (La Lb : List Sp) (N M ca cb : Nat) (Aa Ab : Option Addr) (w : World) (hza : SpansAt w.heap.size w Aa N La) (hzb : SpansAt w.heap.size w Ab M Lb) (hN : N ≤ 2000000) (hM : M ≤ 2000000) :
   Calls Try.prog 43 #[.slice Aa N ca, .slice Ab M cb] w fun e w' => SetRet w.heap.size (fun d => memB La d && memB Lb d) e w' ∧ Below w.heap.size w w' := by
 have HM := Lib.hid (merge_any 49 (fun x y => x && y) La Lb N M ca cb Aa Ab w hza hzb hN hM (enters_of Try.func49 (by kernel_rfl) rfl) intersect_keep)
 clear hza hzb
 go_enter Try.func43, Try.ntmps43
 go_wp2_with (go_at_call 41; ((with_reducible refine (HM.out).mono ?_); rintro e w1 ⟨⟨A9, n9, c9, R9, rfl, q1, q2, q3, q4⟩, hb⟩; have HQ := Lib.hid (And.intro q1 q2); clear q1 q2))
 go_ret
 exact ⟨⟨A9, n9, c9, R9, rfl, HQ.out.1, HQ.out.2, q3, q4⟩, hb⟩
theorem one_span (w : World) (f t : Int) (ty : TypeId) : SpansAt (w.alloc (.cells #[.int .i64 f, .int .i64 t] ty)).heap.size (w.alloc (.cells #[.int .i64 f, .int .i64 t] ty)) (some ⟨w.heap.size, 0, none⟩) 1 [(f, t)] := by
 refine ⟨rfl, fun _ => ⟨w.heap.size, 0, rfl, by simp, fun k hk => ?_⟩⟩
 obtain rfl : k = 0 := by omega
 constructor
 · rw [World.cell?_alloc_at _ _ _ _ rfl]; rfl
 · rw [World.cell?_alloc_at _ _ _ _ rfl]; rfl
set_option maxHeartbeats 400000 in
theorem truncate_any (L : List Sp) (N c : Nat) (A : Option Addr) (t : Int) (w : World) (hz : SpansAt w.heap.size w A N L) (hN : N ≤ 2000000) :
   Calls Try.prog 38 #[.slice A N c, .int .i64 t] w fun e w' => SetRet w.heap.size (fun d => memB L d && memB [(0, t)] d) e w' ∧ Below w.heap.size w w' := by
 have hb0 : Below w.heap.size w (w.alloc (.cells #[.int .i64 0, .int .i64 t] 61)) := (Below.refl _ _).alloc (Nat.le_refl _) _
 have HM := Lib.hid (intersect_any L [(0, t)] N 1 c 1 A (some ⟨w.heap.size, 0, none⟩) (w.alloc (.cells #[.int .i64 0, .int .i64 t] 61)) ((hz.below hb0).mono hb0.size) (one_span w 0 t _) hN (by omega))
 have HB := Lib.hid hb0
 clear hz hb0
 go_enter Try.func38, Try.ntmps38
 go_wp2_with (go_at_call 43; ((with_reducible refine (HM.out).mono ?_); rintro e w1 ⟨⟨A9, n9, c9, R9, rfl, q1, q2, q3, q4⟩, hb⟩; have HQ := Lib.hid (And.intro q1 q2); clear q1 q2))
 go_ret
 exact ⟨⟨A9, n9, c9, R9, rfl, HQ.out.1, HQ.out.2, ⟨q3.1, q3.2.1, q3.2.2.mono HB.out.size⟩, q4⟩, HB.out.trans (hb.mono HB.out.size)⟩
set_option maxHeartbeats 400000 in
theorem extendfrom_any (L : List Sp) (N c : Nat) (A : Option Addr) (t : Int) (w : World) (hz : SpansAt w.heap.size w A N L) (hN : N ≤ 2000000) :
   Calls Try.prog 29 #[.slice A N c, .int .i64 t] w fun e w' => SetRet w.heap.size (fun d => memB L d || memB [(t, 1048577)] d) e w' ∧ Below w.heap.size w w' := by
 have hb0 : Below w.heap.size w (w.alloc (.cells #[.int .i64 t, .int .i64 1048577] 61)) := (Below.refl _ _).alloc (Nat.le_refl _) _
 have HM := Lib.hid (union_any L [(t, 1048577)] N 1 c 1 A (some ⟨w.heap.size, 0, none⟩) (w.alloc (.cells #[.int .i64 t, .int .i64 1048577] 61)) ((hz.below hb0).mono hb0.size) (one_span w t 1048577 _) hN (by omega))
 have HB := Lib.hid hb0
 clear hz hb0
 go_enter Try.func29, Try.ntmps29
 go_wp2_with (go_at_call 36; ((with_reducible refine (HM.out).mono ?_); rintro e w1 ⟨⟨A9, n9, c9, R9, rfl, q1, q2, q3, q4⟩, hb⟩; have HQ := Lib.hid (And.intro q1 q2); clear q1 q2))
 go_ret
 exact ⟨⟨A9, n9, c9, R9, rfl, HQ.out.1, HQ.out.2, ⟨q3.1, q3.2.1, q3.2.2.mono HB.out.size⟩, q4⟩, HB.out.trans (hb.mono HB.out.size)⟩
end Go.Proofs.Ytmgjpmjmondplaa
