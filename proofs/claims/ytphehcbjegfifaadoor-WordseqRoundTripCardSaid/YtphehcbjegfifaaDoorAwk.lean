/-
  The chapter's examples, which every law checks.
-/
import Derived.Test.YtphehcbjegfifaaDoorLong
namespace Go.Proofs.YtphehcbjegfifaaDoor
open Go.RowKit (wrap32 wrap64 intOf Hid Below)
open Occ

theorem sq_lit (w : World) (L : List Str) (t : TypeId) (h : L.length ≤ 1000) : Sq (w.alloc (.cells (sv L).toArray t)) (some ⟨w.heap.size, 0, none⟩) L.length L.length L := by
  refine ⟨⟨⟨sv_len L, fun _ => ⟨w.heap.size, 0, rfl, by simp, fun k u hu => ?_⟩⟩, Nat.le_refl _, by omega, by omega, Nat.le_refl _⟩, fun _ => ⟨_, _, rfl⟩⟩
  rw [Nat.zero_add, World.cell?_alloc_at _ _ _ _ rfl]
  simpa using hu
theorem sq_none (w : World) : Sq w none 0 0 [] := ⟨⟨ValsAt.nil _ _ _, by omega, by omega, by omega, Nat.le_refl _⟩, fun h => absurd h (by omega)⟩
abbrev ba : Str := ⟨#[97]⟩
abbrev bb : Str := ⟨#[98]⟩
abbrev bc : Str := ⟨#[99]⟩
abbrev bd : Str := ⟨#[100]⟩
abbrev bx : Str := ⟨#[120]⟩
theorem ex_occ : occ [ba, ba, ba, bb, ba, ba] [ba, ba] 0 = [0, 4] := by decide
theorem ex_repl : repl [ba, bb, bb] [bb] [bc, bd] 2 = ([ba, bb, bc, bd], 1) := by decide
theorem ex_insr : insr [ba] [] [bx] 0 = ([bx, ba], 1) := by decide
/-- Same, over sequences as they lie. -/
theorem same_c (La Lb : List Str) (N M ca cb : Nat) (Aa Ab : Option Addr) (w : World) (ha : Sq w Aa N ca La) (hb : Sq w Ab M cb Lb) :
    Calls Tryd.prog 8 #[.slice Aa N ca, .slice Ab M cb] w fun e w' => e = .returned (.bool (decide (La = Lb))) ∧ Below w.heap.size w w' :=
  (same_any La Lb w.heap.size N M ca cb Aa Ab w ha.1.1 hb.1.1 (by have := ha.1.2.2.2.1; omega) (by have := hb.1.2.2.2.1; omega) (Nat.le_refl _)).mono fun _ _ ⟨he, hq⟩ => ⟨he, drew_below hq⟩
theorem same_yes (L : List Str) (N M ca cb : Nat) (Aa Ab : Option Addr) (w : World) (ha : Sq w Aa N ca L) (hb : Sq w Ab M cb L) :
    Calls Tryd.prog 8 #[.slice Aa N ca, .slice Ab M cb] w fun e w' => e = .returned (.bool true) ∧ Below w.heap.size w w' := by
  have h := same_c L L N M ca cb Aa Ab w ha hb
  rwa [decide_eq_true rfl] at h

set_option maxHeartbeats 4000000 in
set_option maxRecDepth 100000 in
theorem awake_any (w : World) :
    Calls Tryd.prog 5 #[] w fun e w' => e = .returned (.bool true) ∧ Below w.heap.size w w' := by
  have HF : Hid (Calls Tryd.prog 14 #[.slice (some ⟨w.heap.size, 0, none⟩) 6 6, .slice (some ⟨w.heap.size + 1, 0, none⟩) 2 2]
      ((w.alloc (.cells #[.string ⟨#[97]⟩, .string ⟨#[97]⟩, .string ⟨#[97]⟩, .string ⟨#[98]⟩, .string ⟨#[97]⟩, .string ⟨#[97]⟩] 9)).alloc (.cells #[.string ⟨#[97]⟩, .string ⟨#[97]⟩] 9))
      fun e w' => NumsRet w.heap.size [0, 4] e w' ∧ Below w.heap.size w w') := Lib.hid (by
    have h1 := (sq_lit w [ba, ba, ba, bb, ba, ba] 9 (by decide)).below (alloc_below _ (.cells #[.string ⟨#[97]⟩, .string ⟨#[97]⟩] 9))
    have h2 := sq_lit (w.alloc (.cells #[.string ⟨#[97]⟩, .string ⟨#[97]⟩, .string ⟨#[97]⟩, .string ⟨#[98]⟩, .string ⟨#[97]⟩, .string ⟨#[97]⟩] 9)) [ba, ba] 9 (by decide)
    have e : (w.alloc (.cells #[.string ⟨#[97]⟩, .string ⟨#[97]⟩, .string ⟨#[97]⟩, .string ⟨#[98]⟩, .string ⟨#[97]⟩, .string ⟨#[97]⟩] 9)).heap.size = w.heap.size + 1 := by simp
    rw [e] at h2
    refine (findall_any _ _ _ 6 2 6 2 _ _ _ h1.1 h2.1).mono fun e w' ⟨hr, hb⟩ => ?_
    rw [ex_occ] at hr
    obtain ⟨A, n, c, he, h3, h4, h5, h6⟩ := hr
    have hbb := two_below w (.cells #[.string ⟨#[97]⟩, .string ⟨#[97]⟩, .string ⟨#[97]⟩, .string ⟨#[98]⟩, .string ⟨#[97]⟩, .string ⟨#[97]⟩] 9) (.cells #[.string ⟨#[97]⟩, .string ⟨#[97]⟩] 9)
    exact ⟨⟨A, n, c, he, h3, h4, h5, ⟨h6.1, h6.2.imp id fun ⟨g, cap, cur, k1, k2, k3⟩ => ⟨g, cap, cur, k1, Nat.le_trans hbb.size k2, k3⟩⟩⟩, hbb.trans (hb.mono hbb.size)⟩)
  have HR : Hid (∀ W, Calls Tryd.prog 15 #[.slice (some ⟨W.heap.size, 0, none⟩) 3 3, .slice (some ⟨W.heap.size + 1, 0, none⟩) 1 1, .slice (some ⟨W.heap.size + 1 + 1, 0, none⟩) 2 2, .int .i64 2]
      (((W.alloc (.cells #[.string ⟨#[97]⟩, .string ⟨#[98]⟩, .string ⟨#[98]⟩] 9)).alloc (.cells #[.string ⟨#[98]⟩] 9)).alloc (.cells #[.string ⟨#[99]⟩, .string ⟨#[100]⟩] 9))
      fun e w' => ∃ A n c, e = .returned (.tuple #[.slice A n c, .int .i64 1]) ∧ Sq w' A n c [ba, bb, bc, bd] ∧ Below W.heap.size W w') := Lib.hid fun W => by
    have h1 := ((sq_lit W [ba, bb, bb] 9 (by decide)).below (alloc_below _ (.cells #[.string ⟨#[98]⟩] 9))).below (alloc_below _ (.cells #[.string ⟨#[99]⟩, .string ⟨#[100]⟩] 9))
    have h2 := (sq_lit (W.alloc (.cells #[.string ⟨#[97]⟩, .string ⟨#[98]⟩, .string ⟨#[98]⟩] 9)) [bb] 9 (by decide)).below (alloc_below _ (.cells #[.string ⟨#[99]⟩, .string ⟨#[100]⟩] 9))
    have h3 := sq_lit ((W.alloc (.cells #[.string ⟨#[97]⟩, .string ⟨#[98]⟩, .string ⟨#[98]⟩] 9)).alloc (.cells #[.string ⟨#[98]⟩] 9)) [bc, bd] 9 (by decide)
    have e1 : (W.alloc (.cells #[.string ⟨#[97]⟩, .string ⟨#[98]⟩, .string ⟨#[98]⟩] 9)).heap.size = W.heap.size + 1 := by simp
    have e2 : ((W.alloc (.cells #[.string ⟨#[97]⟩, .string ⟨#[98]⟩, .string ⟨#[98]⟩] 9)).alloc (.cells #[.string ⟨#[98]⟩] 9)).heap.size = W.heap.size + 1 + 1 := by simp
    rw [e1] at h2
    rw [e2] at h3
    have hbb := two_below W (.cells #[.string ⟨#[97]⟩, .string ⟨#[98]⟩, .string ⟨#[98]⟩] 9) (.cells #[.string ⟨#[98]⟩] 9)
    have hb3 := hbb.trans ((alloc_below _ (.cells #[.string ⟨#[99]⟩, .string ⟨#[100]⟩] 9)).mono hbb.size)
    refine (replace_any _ _ _ 3 1 2 3 1 2 _ _ _ 2 _ h1 h2 h3 (by omega) (by omega)).mono fun e w' ⟨A, n, c, he, hs, hb⟩ => ?_
    rw [ex_repl] at he hs
    exact ⟨A, n, c, he, hs, hb3.trans (hb.mono hb3.size)⟩
  have HI : Hid (∀ W, Calls Tryd.prog 16 #[.slice (some ⟨W.heap.size, 0, none⟩) 1 1, .slice none 0 0, .slice (some ⟨W.heap.size + 1, 0, none⟩) 1 1, .int .i64 0]
      ((W.alloc (.cells #[.string ⟨#[97]⟩] 9)).alloc (.cells #[.string ⟨#[120]⟩] 9))
      fun e w' => ∃ A n c, e = .returned (.tuple #[.slice A n c, .int .i64 1]) ∧ Sq w' A n c [bx, ba] ∧ Below W.heap.size W w') := Lib.hid fun W => by
    have h1 := (sq_lit W [ba] 9 (by decide)).below (alloc_below _ (.cells #[.string ⟨#[120]⟩] 9))
    have h2 := sq_lit (W.alloc (.cells #[.string ⟨#[97]⟩] 9)) [bx] 9 (by decide)
    have e1 : (W.alloc (.cells #[.string ⟨#[97]⟩] 9)).heap.size = W.heap.size + 1 := by simp
    rw [e1] at h2
    have hbb := two_below W (.cells #[.string ⟨#[97]⟩] 9) (.cells #[.string ⟨#[120]⟩] 9)
    refine (insert_any _ _ _ 1 0 1 1 0 1 _ _ _ 0 _ h1 (sq_none _) h2 (by omega) (by omega)).mono fun e w' ⟨A, n, c, he, hs, hb⟩ => ?_
    rw [ex_insr] at he hs
    exact ⟨A, n, c, he, hs, hbb.trans (hb.mono hbb.size)⟩
  go_enter Tryd.func5, Tryd.ntmps5
  go_wp2_with fail
  with_reducible refine (HF.out).mono ?_
  rintro e w1 ⟨⟨A1, n1, c1, rfl, hn1, _, _, hown1⟩, hb1⟩
  obtain rfl : n1 = 2 := hn1
  have hv1 := ValsAt.of_own hown1
  have HV1 := Lib.hid hv1
  have hb1z := hb1.size
  clear hown1 hv1
  go_wp2_with fail
  with_reducible refine (HR.out w1).mono ?_
  rintro e w2 ⟨A2, n2, c2, rfl, hs2, hb2⟩
  have HS2 := Lib.hid hs2
  have hb12 := hb1.trans (hb2.mono hb1z)
  have hb12z := hb12.size
  clear hs2
  go_wp2_with fail
  with_reducible refine (HI.out w2).mono ?_
  rintro e w3 ⟨A3, n3, c3, rfl, hs3, hb3⟩
  have HS3 := Lib.hid hs3
  have hb13 := hb12.trans (hb3.mono hb12z)
  have hb13z := hb13.size
  obtain ⟨b, off, rfl, _, hx0⟩ := HV1.out.num (L := [0, 4]) (hb2.trans (hb3.mono hb2.size)) (k := 0) (by omega)
  have hx1 : w3.cell? ⟨b, off + 1, none⟩ = some (.int .i64 4) := by
    obtain ⟨b', off', he, _, hx⟩ := HV1.out.num (L := [0, 4]) (hb2.trans (hb3.mono hb2.size)) (k := 1) (by omega)
    obtain ⟨rfl, rfl⟩ : b = b' ∧ off = off' := by simpa using he
    exact hx
  have hx0' : w3.cell? ⟨b, off, none⟩ = some (.int .i64 0) := hx0
  have HM : Hid (Calls Tryd.prog 8 #[.slice A2 n2 c2, .slice (some ⟨w3.heap.size, 0, none⟩) 4 4] (w3.alloc (.cells #[.string ⟨#[97]⟩, .string ⟨#[98]⟩, .string ⟨#[99]⟩, .string ⟨#[100]⟩] 9)) fun e w' => e = .returned (.bool true) ∧ Below w.heap.size w w' ∧ Below w3.heap.size w3 w') := Lib.hid
    ((same_yes _ n2 4 c2 4 A2 _ _ ((HS2.out.below hb3).below (alloc_below _ _)) (sq_lit w3 [ba, bb, bc, bd] 9 (by decide))).mono fun _ _ ⟨he, hb⟩ => ⟨he, (hb13.trans ((alloc_below w3 _).mono hb13z)).trans (hb.mono (Nat.le_trans hb13z (alloc_below w3 _).size)), (alloc_below w3 _).trans (hb.mono (alloc_below w3 _).size)⟩)
  have HO : Hid (∀ W, Below w3.heap.size w3 W → Calls Tryd.prog 8 #[.slice A3 n3 c3, .slice (some ⟨W.heap.size, 0, none⟩) 2 2] (W.alloc (.cells #[.string ⟨#[120]⟩, .string ⟨#[97]⟩] 9)) fun e w' => e = .returned (.bool true) ∧ Below W.heap.size W w') := Lib.hid fun W hW =>
    ((same_yes _ n3 2 c3 2 A3 _ _ ((HS3.out.below hW).below (alloc_below _ _)) (sq_lit W [bx, ba] 9 (by decide))).mono fun _ _ ⟨he, hb⟩ => ⟨he, (alloc_below W _).trans (hb.mono (alloc_below W _).size)⟩)
  clear hs3 hx0
  go_wp2_with fail
  with_reducible refine (HM.out).mono ?_
  rintro e w4 ⟨rfl, hb14, hb34⟩
  have hb14z := hb14.size
  go_wp2_with fail
  with_reducible refine (HO.out w4 hb34).mono ?_
  rintro e w5 ⟨rfl, hb45⟩
  go_wp2
  go_ret
  exact ⟨rfl, hb14.trans (hb45.mono hb14z)⟩
end Go.Proofs.YtphehcbjegfifaaDoor
