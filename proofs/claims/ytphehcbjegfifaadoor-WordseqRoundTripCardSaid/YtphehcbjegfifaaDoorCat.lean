/-
  The contracts of slices.Grow at nil, slices.Concat of two, Replace and InsertAfter.
-/
import Derived.Lib.AppendZerosOnto
import Derived.Lib.AppendZeros
import Derived.Lib.SliceRun
import Derived.Lib.Walk
import Derived.Shelf.Abstract
import Derived.Test.YtphehcbjegfifaaDoorRwt
namespace Go.Proofs.YtphehcbjegfifaaDoor
open Go.RowKit (wrap32 wrap64 intOf Hid Below)
open Occ

set_option maxHeartbeats 2000000 in
set_option maxRecDepth 100000 in
theorem grow_nil (n : Nat) (w : World) (hn : n ≤ 1000000) :
    Calls Tryd.prog 34 #[.slice none 0 0, .int .i64 (n : Int)] w fun e w' => ∃ A c, e = .returned (.slice A 0 c) ∧ w'.ownsRow w.heap.size 9 1 (.slice A 0 c) 0 [] ∧ Below w.heap.size w w' := by
  obtain ⟨i0, hi, hz0, hz1, hz2⟩ := info_parts info_str
  by_cases h0 : 0 < n
  · have hrz : ∀ ty, (Builtin.append_ #[23, 3] ty #[.slice none 0 0, .int .i64 (n : Int)]).run Tryd.prog w =
        .ok (.slice (some ⟨w.heap.size, 0, none⟩) (0 + n) (grownCap w (0 + n) 0 9)) (w.drew.alloc (.cells (([] : List Value).toArray ++ Builtin.zeroCells (Value.string ⟨#[]⟩).cells n ++ Builtin.zeroCells (Value.string ⟨#[]⟩).cells (grownCap w (0 + n) 0 9 - (0 + n))) 9)) := fun ty =>
      Lib.run_append_grow_zeros w 23 3 ty 9 i0 _ .i64 .i64 Tryd.underlying23 Tryd.underlying3 hi hz0 none 0 0 [] (run_firstCells_none w.drew i0.size 0 0 0) n h0 (by rw [hz1]; omega) (by omega) (by omega) (by rw [hz2]; omega) (growslice_fits (by omega) (by rw [hz2]; omega))
    have hG := grownCap_ge w (0 + n) 0 9
    have hG63 := grownCap_le_maxLen w (0 + n) 0 9 (by unfold maxLen; omega)
    obtain ⟨G, hGe⟩ : ∃ G, G = grownCap w (0 + n) 0 9 := ⟨_, rfl⟩
    rw [← hGe] at hrz hG hG63
    obtain ⟨Z, hZ⟩ : ∃ Z, Z = (([] : List Value).toArray ++ Builtin.zeroCells (Value.string ⟨#[]⟩).cells n ++ Builtin.zeroCells (Value.string ⟨#[]⟩).cells (G - (0 + n))) := ⟨_, rfl⟩
    have hZs : Z.size = G * 1 := by rw [hZ]; simp only [Array.size_append, List.size_toArray, size_zeroCells]; simp [Value.cells]; omega
    rw [← hZ] at hrz
    have HOw := Lib.hid (World.ownsRow_made (e := 9) (size := 1) w Z G (Nat.le_refl _) hG63 hZs).drew
    have HB := Lib.hid ((Below.refl w.heap.size w).alloc (Nat.le_refl _) (.cells Z 9)).drew
    clear hZ hZs
    unfold maxLen at hG63
    clear hGe
    have hn1 : ¬ ((n : Int) < 0) := by omega
    go_enter Tryd.func34, Tryd.ntmps34
    go_wp2_with (at_builtin; refine Lib.wpList_append_run _ rfl _ _ _ _ rfl _ _ rfl rfl _ _ (hrz _) ?_)
    all_goals
      go_ret
      exact ⟨_, _, rfl, HOw.out, HB.out⟩
  · obtain rfl : n = 0 := by omega
    go_enter Tryd.func34, Tryd.ntmps34
    go_wp2
    go_ret
    exact ⟨none, 0, rfl, World.ownsRow_nil _ _ _ _, Below.refl _ _⟩

set_option maxHeartbeats 4000000 in
set_option maxRecDepth 100000 in
theorem concat_two (Lf L : List Str) (f n d c g : Nat) (D A : Option Addr) (w : World) (hf : Sq w D f d Lf) (hl : Sq w A n c L) (hf1 : f ≤ 100000) (hn1 : n ≤ 100000) (hg : g < w.heap.size)
    (h0 : w.cell? ⟨g, 0, none⟩ = some (.slice D f d)) (h1 : w.cell? ⟨g, 1, none⟩ = some (.slice A n c)) :
    Calls Tryd.prog 25 #[.slice (some ⟨g, 0, none⟩) 2 2] w fun e w' => ∃ A' n' c', e = .returned (.slice A' n' c') ∧ Sq w' A' n' c' (Lf ++ L) ∧ Below w.heap.size w w' := by
  obtain ⟨i0, hi, hz0, hz1, hz2⟩ := info_parts info_str
  have HC0 : Hid (∀ W, Below w.heap.size w W → W.cell? ⟨g, 0, none⟩ = some (.slice D f d)) := Lib.hid fun W h => (h.cell (p := ⟨g, 0, none⟩) hg).trans h0
  have HC1 : Hid (∀ W, Below w.heap.size w W → W.cell? ⟨g, 1, none⟩ = some (.slice A n c)) := Lib.hid fun W h => (h.cell (p := ⟨g, 1, none⟩) hg).trans h1
  have HF := Lib.hid hf
  have HL := Lib.hid hl
  have HGr : Hid (Calls Tryd.prog 34 #[.slice none 0 0, .int .i64 ((f : Int) + n)] w fun e w' => ∃ A c, e = .returned (.slice A 0 c) ∧ w'.ownsRow w.heap.size 9 1 (.slice A 0 c) 0 [] ∧ Below w.heap.size w w') := Lib.hid (by
    have h := grow_nil (f + n) w (by omega)
    rwa [Int.natCast_add] at h)
  clear hf hl h0 h1 hg
  go_enter Tryd.func25, Tryd.ntmps25
  go_wp2
  go_loop [3, 11] (fun s i => ∃ k : Nat, k ≤ 2 ∧ i = .int .i64 k ∧ ((k = 0 ∧ s = .int .i64 0) ∨ (k = 1 ∧ s = .int .i64 (f : Int)) ∨ (k = 2 ∧ s = .int .i64 ((f : Int) + n)))) (fun _ i => 2 - (intOf i).toNat)
  case atStart => exact ⟨0, by omega, rfl, Or.inl ⟨rfl, rfl⟩⟩
  case round =>
    obtain ⟨k, hk, rfl, hs⟩ := hrel
    rcases hs with ⟨rfl, rfl⟩ | ⟨rfl, rfl⟩ | ⟨rfl, rfl⟩
    · have hc := HC0.out w (Below.refl _ _)
      go_wp2
      go_round
      case rel => exact ⟨1, by omega, by go_num, Or.inr (Or.inl ⟨rfl, by go_num⟩)⟩
      case measure => simp [intOf]
    · have hc := HC1.out w (Below.refl _ _)
      have hn0 : ¬ ((f : Int) + n < 0) := by omega
      go_wp2
      go_round
      case rel => exact ⟨2, by omega, by go_num, Or.inr (Or.inr ⟨rfl, rfl⟩)⟩
      case measure => simp [intOf]
    · go_wp2_with (go_at_call 34; ((with_reducible refine (HGr.out).mono ?_); rintro e w1 ⟨A1, c1, rfl, hown1, hb1⟩))
      have HO1 := Lib.hid hown1
      have hb1z := hb1.size
      clear hown1
      go_loopw [6, 27] (fun v i wr => ∃ (k q cc : Nat) (Av : Option Addr) (xs : List Str), k ≤ 2 ∧ i = .int .i64 k ∧ v = .slice Av q cc ∧ wr.ownsRow w.heap.size 9 1 (.slice Av q cc) q (sv xs) ∧ Below w.heap.size w wr ∧ ((k = 0 ∧ q = 0 ∧ xs = []) ∨ (k = 1 ∧ q = f ∧ xs = Lf) ∨ (k = 2 ∧ q = f + n ∧ xs = Lf ++ L))) (fun _ i _ => 2 - (intOf i).toNat)
      case atStart => exact ⟨0, 0, c1, A1, [], by omega, rfl, rfl, HO1.out, hb1, Or.inl ⟨rfl, rfl, rfl⟩⟩
      case round =>
        obtain ⟨k, q, cc, Av, xs, hk, rfl, rfl, hown, hb, hs⟩ := hrel
        have hbz := hb.size
        rcases hs with ⟨rfl, rfl, rfl⟩ | ⟨rfl, rfl, rfl⟩ | ⟨rfl, rfl, rfl⟩
        · have hc := HC0.out wr hb
          have HOwn := Lib.hid hown
          have HNw := Lib.hid (HF.out.1.1.below hb)
          clear hown
          go_wp2_with (at_builtin; refine wpList_append_vals _ rfl _ _ 23 rfl w.heap.size 9 i0 (.string ⟨#[]⟩) 16 Tryd.underlying23 hi hz0 hz1 hz2 rfl _ _ _ rfl HOwn.out _ _ _ _ _ rfl HNw.out (sv_one _) (by unfold maxLen; omega) (by omega) hbz ?_)
          intro A' c' w2 hown' hgrow
          have hb2 := below_own HOwn.out hb hbz hgrow
          have HO2 : Hid (w2.ownsRow w.heap.size 9 1 (.slice A' f c') f (sv Lf)) := Lib.hid (by simpa [sv] using hown')
          clear hown' hgrow
          go_wp2
          go_roundw
          case rel => exact ⟨1, f, c', A', Lf, by omega, by go_num, rfl, HO2.out, hb2, Or.inr (Or.inl ⟨rfl, rfl, rfl⟩)⟩
          case measure => simp [intOf]
        · have hc := HC1.out wr hb
          have HOwn := Lib.hid hown
          have HNw := Lib.hid (HL.out.1.1.below hb)
          clear hown
          go_wp2_with (at_builtin; refine wpList_append_vals _ rfl _ _ 23 rfl w.heap.size 9 i0 (.string ⟨#[]⟩) 16 Tryd.underlying23 hi hz0 hz1 hz2 rfl _ _ _ rfl HOwn.out _ _ _ _ _ rfl HNw.out (sv_one _) (by unfold maxLen; omega) (by omega) hbz ?_)
          intro A' c' w2 hown' hgrow
          have hb2 := below_own HOwn.out hb hbz hgrow
          rw [← sv_app] at hown'
          have HO2 := Lib.hid hown'
          clear hown' hgrow
          go_wp2
          go_roundw
          case rel => exact ⟨2, _, c', A', _, by omega, by go_num, rfl, HO2.out, hb2, Or.inr (Or.inr ⟨rfl, rfl, rfl⟩)⟩
          case measure => simp [intOf]
        · have HS := Lib.hid (Sq.of_own hown (by omega))
          clear hown
          go_wp2
          go_ret
          exact ⟨_, _, _, rfl, HS.out, hb⟩

set_option maxHeartbeats 2000000 in
theorem replace_any (L P F : List Str) (n m f c d k : Nat) (A D E : Option Addr) (nth : Int) (w : World) (hl : Sq w A n c L) (hp : Sq w D m d P) (hf : Sq w E f k F) (hn : n ≤ 100000) (hF : f ≤ 1000) :
    Calls Tryd.prog 15 #[.slice A n c, .slice D m d, .slice E f k, .int .i64 nth] w fun e w' => ∃ A' n' c', e = .returned (.tuple #[.slice A' n' c', .int .i64 ((repl L P F nth).2 : Nat)]) ∧ Sq w' A' n' c' (repl L P F nth).1 ∧ Below w.heap.size w w' := by
  have hb := alloc_below w (.cells #[.slice E f k] 23)
  have HR : Hid (Calls Tryd.prog 23 #[.slice A n c, .slice D m d, .int .i64 nth, .func (.func 24) #[] #[.pointer (some ⟨w.heap.size, 0, none⟩)]] (w.alloc (.cells #[.slice E f k] 23)) fun e w' => ∃ A' n' c', e = .returned (.tuple #[.slice A' n' c', .int .i64 ((repl L P F nth).2 : Nat)]) ∧ Sq w' A' n' c' (repl L P F nth).1 ∧ Below w.heap.size w w') := Lib.hid
    ((rewrite_any L P F n m c d A D nth 24 #[.pointer (some ⟨w.heap.size, 0, none⟩)] _ (hl.below hb) (hp.below hb) hn (by have := hf.len; omega) (Go.Proofs.enters_of Tryd.func24 (by kernel_rfl) rfl)
      (replace1_any F f k w.heap.size E _ ((hf.below hb).1.1) (by omega) (by simp) (by rw [World.cell?_alloc_at _ _ _ _ rfl]; rfl))).mono fun _ _ ⟨A', n', c', he, h1, h2⟩ => ⟨A', n', c', he, h1, hb.trans (h2.mono hb.size)⟩)
  clear hl hp hf hb
  generalize repl L P F nth = R at *
  go_enter Tryd.func15, Tryd.ntmps15
  go_wp2_with (go_at_call 23; ((with_reducible refine (HR.out).mono ?_); rintro e w1 ⟨A1, n1, c1, rfl, h1, hb1⟩; have HS := Lib.hid h1; clear h1))
  go_ret2
  exact ⟨A1, n1, c1, rfl, HS.out, hb1⟩
end Go.Proofs.YtphehcbjegfifaaDoor
