/-
  The contract of InsertAfter.
-/
import Derived.Test.YtphehcbjegfifaaDoorCat
namespace Go.Proofs.YtphehcbjegfifaaDoor
open Go.RowKit (wrap32 wrap64 intOf Hid Below)
open Occ

theorem two_below (w : World) (o1 o2 : Obj) : Below w.heap.size w ((w.alloc o1).alloc o2) := (alloc_below w o1).alloc (by simp) o2
theorem two_first (w : World) (v : Value) (t : TypeId) (o2 : Obj) : ((w.alloc (.cells #[v] t)).alloc o2).cell? ⟨w.heap.size, 0, none⟩ = some v := by
  rw [World.cell?_alloc_past _ _ _ (by simp), World.cell?_alloc_at _ _ _ _ rfl]
  rfl
theorem two_second (w : World) (v : Value) (t : TypeId) (o1 : Obj) : ((w.alloc o1).alloc (.cells #[v] t)).cell? ⟨w.heap.size + 1, 0, none⟩ = some v := by
  rw [World.cell?_alloc_at _ _ _ _ (by simp)]
  rfl
set_option maxHeartbeats 2000000 in
theorem insert_any (L P F : List Str) (n m f c d k : Nat) (A D E : Option Addr) (nth : Int) (w : World) (hl : Sq w A n c L) (hp : Sq w D m d P) (hf : Sq w E f k F) (hn : n ≤ 100000) (hF : m + f ≤ 1000) :
    Calls Tryd.prog 16 #[.slice A n c, .slice D m d, .slice E f k, .int .i64 nth] w fun e w' => ∃ A' n' c', e = .returned (.tuple #[.slice A' n' c', .int .i64 ((insr L P F nth).2 : Nat)]) ∧ Sq w' A' n' c' (insr L P F nth).1 ∧ Below w.heap.size w w' := by
  have hb := two_below w (.cells #[.slice D m d] 23) (.cells #[.slice E f k] 23)
  have hx1 := two_first w (.slice D m d) 23 (.cells #[.slice E f k] 23)
  have hx2 := two_second w (.slice E f k) 23 (.cells #[.slice D m d] 23)
  have hPm := hp.len
  have hFf := hf.len
  by_cases hc : m = 0 ∧ nth = 0
  · obtain ⟨rfl, rfl⟩ := hc
    have hP0 : P = [] := List.eq_nil_of_length_eq_zero hPm
    have hR : insr L P F 0 = (F ++ L, 1) := by unfold insr; rw [if_pos ⟨hP0, rfl⟩]
    rw [hR]
    have HC : Hid (Calls Tryd.prog 25 #[.slice (some ⟨w.heap.size + 1 + 1, 0, none⟩) 2 2] (((w.alloc (.cells #[.slice D 0 d] 23)).alloc (.cells #[.slice E f k] 23)).alloc (.cells #[.slice E f k, .slice A n c] 23)) fun e w' => ∃ A' n' c', e = .returned (.slice A' n' c') ∧ Sq w' A' n' c' (F ++ L) ∧ Below w.heap.size w w') := Lib.hid (by
      have hb3 := hb.trans ((alloc_below _ (.cells #[.slice E f k, .slice A n c] 23)).mono hb.size)
      refine (concat_two F L f n k c (w.heap.size + 1 + 1) E A _ (hf.below hb3) (hl.below hb3) (by omega) (by omega) (by simp) (by rw [World.cell?_alloc_at _ _ _ _ (by simp)]; rfl) (by rw [World.cell?_alloc_at _ _ _ _ (by simp)]; rfl)).mono fun _ _ ⟨A', n', c', he, h1, h2⟩ => ⟨A', n', c', he, h1, hb3.trans (h2.mono hb3.size)⟩)
    clear hl hp hf hb hx1 hx2 hR hP0 hPm hFf
    go_enter Tryd.func16, Tryd.ntmps16
    go_wp2_with (go_at_call 25; ((with_reducible refine (HC.out).mono ?_); rintro e w1 ⟨A1, n1, c1, rfl, h1, hb1⟩; have HS := Lib.hid h1; clear h1))
    go_ret2
    exact ⟨A1, n1, c1, rfl, HS.out, hb1⟩
  · have hR : insr L P F nth = repl L P (P ++ F) nth := by
      unfold insr
      rw [if_neg]
      rintro ⟨rfl, h⟩
      exact hc ⟨by simpa using hPm.symm, h⟩
    rw [hR]
    have HR : Hid (Calls Tryd.prog 23 #[.slice A n c, .slice D m d, .int .i64 nth, .func (.func 26) #[] #[.pointer (some ⟨w.heap.size, 0, none⟩), .pointer (some ⟨w.heap.size + 1, 0, none⟩)]] ((w.alloc (.cells #[.slice D m d] 23)).alloc (.cells #[.slice E f k] 23)) fun e w' => ∃ A' n' c', e = .returned (.tuple #[.slice A' n' c', .int .i64 ((repl L P (P ++ F) nth).2 : Nat)]) ∧ Sq w' A' n' c' (repl L P (P ++ F) nth).1 ∧ Below w.heap.size w w') := Lib.hid
      ((rewrite_any L P (P ++ F) n m c d A D nth 26 #[.pointer (some ⟨w.heap.size, 0, none⟩), .pointer (some ⟨w.heap.size + 1, 0, none⟩)] _ (hl.below hb) (hp.below hb) hn (by rw [List.length_append]; omega) (Go.Proofs.enters_of Tryd.func26 (by kernel_rfl) rfl)
        (insert1_any P F m f d k w.heap.size (w.heap.size + 1) D E _ ((hp.below hb).1.1) ((hf.below hb).1.1) (by omega) (by omega) (by simp; omega) (by simp) hx1 hx2)).mono fun _ _ ⟨A', n', c', he, h1, h2⟩ => ⟨A', n', c', he, h1, hb.trans (h2.mono hb.size)⟩)
    clear hl hp hf hb hR hPm hFf
    generalize repl L P (P ++ F) nth = R at *
    by_cases hm : m = 0
    · subst hm
      have e1 : (nth == 0) = false := by rw [beq_eq_false_iff_ne]; intro h; exact hc ⟨rfl, h⟩
      clear hc
      go_enter Tryd.func16, Tryd.ntmps16
      go_wp2_with (go_at_call 23; ((with_reducible refine (HR.out).mono ?_); rintro e w1 ⟨A1, n1, c1, rfl, h1, hb1⟩; have HS := Lib.hid h1; clear h1))
      go_ret2
      exact ⟨A1, n1, c1, rfl, HS.out, hb1⟩
    · have e1 : ((m : Int) == 0) = false := by rw [beq_eq_false_iff_ne]; omega
      clear hc hm
      go_enter Tryd.func16, Tryd.ntmps16
      go_wp2_with (go_at_call 23; ((with_reducible refine (HR.out).mono ?_); rintro e w1 ⟨A1, n1, c1, rfl, h1, hb1⟩; have HS := Lib.hid h1; clear h1))
      go_ret2
      exact ⟨A1, n1, c1, rfl, HS.out, hb1⟩
end Go.Proofs.YtphehcbjegfifaaDoor
