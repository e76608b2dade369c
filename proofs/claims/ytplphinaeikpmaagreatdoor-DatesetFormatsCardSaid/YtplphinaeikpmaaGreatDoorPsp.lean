/-
  The contracts of the library's readers, and of parseSpan.
-/
import Derived.Test.YtplphinaeikpmaaGreatDoorPar
import Derived.Test.YtplphinaeikpmaaGreatDoorMem
import Derived.Test.YtplphinaeikpmaaGreatDoorShelf
namespace Go.Proofs.YtplphinaeikpmaaGreatDoor
open Go.RowKit (wrap32 wrap64 intOf Hid Below)
open Spans

/-- What Atoi hands back: a number and no error, or whatever number and an error. -/
def AtR : Option Int → Ending → Prop
  | some v, e => e = .returned (.tuple #[.int .i64 v, .nilIface])
  | none, e => ∃ (v : Int) (N : Nat), e = .returned (.tuple #[.int .i64 v, .iface 113 (.pointer (some ⟨N, 0, none⟩))])
def psR (o r : Bool) (x y : Option Int) : Option Sp :=
  match x with
  | some v => if o then some (v, 1048577) else if r then (match y with
    | some u => some (v, wrap64 (u + 1))
    | none => none) else some (v, wrap64 (v + 1))
  | none => none
/-- What parseSpan returns for what it found. -/
def psV : Option Sp → Value
  | some s => .tuple #[.agg #[.int .i64 s.1, .int .i64 s.2], .bool true]
  | none => .tuple #[.agg #[.int .i64 0, .int .i64 0], .bool false]

theorem psp_res (n : Nat) (x y x0 y0 : Value) (W : World) (tmps : Array Value) (h2 : tmps[2]?.getD undef = .pointer (some ⟨n, 0, none⟩)) (k1 : W.cell? ⟨n, 0, none⟩ = some x0) (k2 : W.cell? ⟨n, 1, none⟩ = some y0) :
    (results Tryz.f20 tmps).run Tryz.prog ((W.setCell ⟨n, 0, none⟩ x).setCell ⟨n, 1, none⟩ y) = .ok (.tuple #[.agg #[x, y], tmps[3]?.getD undef]) ((W.setCell ⟨n, 0, none⟩ x).setCell ⟨n, 1, none⟩ y) := by
  have q1 : (W.setCell ⟨n, 0, none⟩ x).cell? ⟨n, 0, none⟩ = some x := World.cell?_setCell_same _ _ _ k1
  have q2 : ((W.setCell ⟨n, 0, none⟩ x).setCell ⟨n, 1, none⟩ y).cell? ⟨n, 1, none⟩ = some y := World.cell?_setCell_same _ _ _ ((World.cell?_setCell_other _ _ _ _ (by simp)).trans k2)
  simp [results, Tryz.results20, go_sem, h2, q1, q2]
section
variable (s a b c : ByteArray) (w : World)
set_option maxHeartbeats 1000000 in
theorem ps_no (o r : Bool)
    (h1 : ∀ W, Below w.heap.size w W → Calls Tryz.prog 39 #[.string s, .string ⟨#[43]⟩] W fun e w' => e = .returned (.tuple #[.string a, .bool o]) ∧ Below W.heap.size W w')
    (h2 : ∀ W, Below w.heap.size w W → Calls Tryz.prog 40 #[.string a, .string ⟨#[45]⟩] W fun e w' => e = .returned (.tuple #[.string b, .string c, .bool r]) ∧ Below W.heap.size W w')
    (h3 : ∀ W, Below w.heap.size w W → Calls Tryz.prog 41 #[.string b] W fun e w' => AtR none e ∧ Below W.heap.size W w') :
    Calls Tryz.prog 20 #[.string s] w fun e w' => e = .returned (psV none) ∧ Below w.heap.size w w' := by
  have hb0 : Below w.heap.size w (w.alloc (.cells #[.int .i64 0, .int .i64 0] 35)) := (Below.refl _ _).alloc (Nat.le_refl _) _
  have HC : Hid (∀ W, Below (w.alloc (.cells #[.int .i64 0, .int .i64 0] 35)).heap.size (w.alloc (.cells #[.int .i64 0, .int .i64 0] 35)) W → W.cell? ⟨w.heap.size, 0, none⟩ = some (.int .i64 0) ∧ W.cell? ⟨w.heap.size, 1, none⟩ = some (.int .i64 0) ∧ W.frozen? ⟨w.heap.size, 0, none⟩ = false ∧ W.frozen? ⟨w.heap.size, 1, none⟩ = false) := Lib.hid fun W hb =>
    ⟨(hb.cell (p := ⟨w.heap.size, 0, none⟩) (by simp)).trans (by simp), (hb.cell (p := ⟨w.heap.size, 1, none⟩) (by simp)).trans (by simp), (hb.frozen (p := ⟨w.heap.size, 0, none⟩) (by simp)).trans (by simp), (hb.frozen (p := ⟨w.heap.size, 1, none⟩) (by simp)).trans (by simp)⟩
  have HB : Hid (∀ W x y, Below (w.alloc (.cells #[.int .i64 0, .int .i64 0] 35)).heap.size (w.alloc (.cells #[.int .i64 0, .int .i64 0] 35)) W → Below w.heap.size w ((W.setCell ⟨w.heap.size, 0, none⟩ x).setCell ⟨w.heap.size, 1, none⟩ y)) := Lib.hid fun W x y h => ((hb0.trans (h.mono hb0.size)).setCell (p := ⟨w.heap.size, 0, none⟩) (Nat.le_refl _) _).setCell (p := ⟨w.heap.size, 1, none⟩) (Nat.le_refl _) _
  have H1 := Lib.hid (h1 _ hb0)
  have H2 : Hid (∀ W, Below (w.alloc (.cells #[.int .i64 0, .int .i64 0] 35)).heap.size (w.alloc (.cells #[.int .i64 0, .int .i64 0] 35)) W → _) := Lib.hid fun W h => h2 W (hb0.trans (h.mono hb0.size))
  have H3 : Hid (∀ W, Below (w.alloc (.cells #[.int .i64 0, .int .i64 0] 35)).heap.size (w.alloc (.cells #[.int .i64 0, .int .i64 0] 35)) W → _) := Lib.hid fun W h => h3 W (hb0.trans (h.mono hb0.size))
  clear h1 h2 h3 hb0
  go_enter Tryz.func20, Tryz.ntmps20
  go_wp2_with (first
    | (go_at_call 39; ((with_reducible refine (H1.out).mono ?_); rintro e w1 ⟨rfl, hb1⟩))
    | (go_at_call 40; ((with_reducible refine (H2.out _ hb1).mono ?_); rintro e w2 ⟨rfl, hb2⟩; have hb12 := hb1.trans (hb2.mono hb1.size)))
    | (go_at_call 41; ((with_reducible refine (H3.out _ hb12).mono ?_); rintro e w3 ⟨⟨v, N, rfl⟩, hb3⟩; have hbz := hb12.trans (hb3.mono hb12.size); obtain ⟨k1, k2, k3, k4⟩ := HC.out _ hbz)))
  (try simp only [Exit.inBlock, Exit.then])
  refine bodyPost_ret (psp_res _ _ _ _ _ _ _ rfl k1 k2) rfl ?_
  exact ⟨rfl, HB.out _ _ _ hbz⟩
set_option maxHeartbeats 1000000 in
theorem ps_open (r : Bool) (v : Int)
    (h1 : ∀ W, Below w.heap.size w W → Calls Tryz.prog 39 #[.string s, .string ⟨#[43]⟩] W fun e w' => e = .returned (.tuple #[.string a, .bool true]) ∧ Below W.heap.size W w')
    (h2 : ∀ W, Below w.heap.size w W → Calls Tryz.prog 40 #[.string a, .string ⟨#[45]⟩] W fun e w' => e = .returned (.tuple #[.string b, .string c, .bool r]) ∧ Below W.heap.size W w')
    (h3 : ∀ W, Below w.heap.size w W → Calls Tryz.prog 41 #[.string b] W fun e w' => AtR (some v) e ∧ Below W.heap.size W w') :
    Calls Tryz.prog 20 #[.string s] w fun e w' => e = .returned (psV (some (v, 1048577))) ∧ Below w.heap.size w w' := by
  have hb0 : Below w.heap.size w (w.alloc (.cells #[.int .i64 0, .int .i64 0] 35)) := (Below.refl _ _).alloc (Nat.le_refl _) _
  have HC : Hid (∀ W, Below (w.alloc (.cells #[.int .i64 0, .int .i64 0] 35)).heap.size (w.alloc (.cells #[.int .i64 0, .int .i64 0] 35)) W → W.cell? ⟨w.heap.size, 0, none⟩ = some (.int .i64 0) ∧ W.cell? ⟨w.heap.size, 1, none⟩ = some (.int .i64 0) ∧ W.frozen? ⟨w.heap.size, 0, none⟩ = false ∧ W.frozen? ⟨w.heap.size, 1, none⟩ = false) := Lib.hid fun W hb =>
    ⟨(hb.cell (p := ⟨w.heap.size, 0, none⟩) (by simp)).trans (by simp), (hb.cell (p := ⟨w.heap.size, 1, none⟩) (by simp)).trans (by simp), (hb.frozen (p := ⟨w.heap.size, 0, none⟩) (by simp)).trans (by simp), (hb.frozen (p := ⟨w.heap.size, 1, none⟩) (by simp)).trans (by simp)⟩
  have HB : Hid (∀ W x y, Below (w.alloc (.cells #[.int .i64 0, .int .i64 0] 35)).heap.size (w.alloc (.cells #[.int .i64 0, .int .i64 0] 35)) W → Below w.heap.size w ((W.setCell ⟨w.heap.size, 0, none⟩ x).setCell ⟨w.heap.size, 1, none⟩ y)) := Lib.hid fun W x y h => ((hb0.trans (h.mono hb0.size)).setCell (p := ⟨w.heap.size, 0, none⟩) (Nat.le_refl _) _).setCell (p := ⟨w.heap.size, 1, none⟩) (Nat.le_refl _) _
  have H1 := Lib.hid (h1 _ hb0)
  have H2 : Hid (∀ W, Below (w.alloc (.cells #[.int .i64 0, .int .i64 0] 35)).heap.size (w.alloc (.cells #[.int .i64 0, .int .i64 0] 35)) W → _) := Lib.hid fun W h => h2 W (hb0.trans (h.mono hb0.size))
  have H3 : Hid (∀ W, Below (w.alloc (.cells #[.int .i64 0, .int .i64 0] 35)).heap.size (w.alloc (.cells #[.int .i64 0, .int .i64 0] 35)) W → _) := Lib.hid fun W h => h3 W (hb0.trans (h.mono hb0.size))
  clear h1 h2 h3 hb0
  go_enter Tryz.func20, Tryz.ntmps20
  go_wp2_with (first
    | (go_at_call 39; ((with_reducible refine (H1.out).mono ?_); rintro e w1 ⟨rfl, hb1⟩))
    | (go_at_call 40; ((with_reducible refine (H2.out _ hb1).mono ?_); rintro e w2 ⟨rfl, hb2⟩; have hb12 := hb1.trans (hb2.mono hb1.size)))
    | (go_at_call 41; ((with_reducible refine (H3.out _ hb12).mono ?_); rintro e w3 ⟨rfl, hb3⟩; have hbz := hb12.trans (hb3.mono hb12.size); obtain ⟨k1, k2, k3, k4⟩ := HC.out _ hbz)))
  (try simp only [Exit.inBlock, Exit.then])
  refine bodyPost_ret (psp_res _ _ _ _ _ _ _ rfl k1 k2) rfl ?_
  exact ⟨rfl, HB.out _ _ _ hbz⟩
set_option maxHeartbeats 1000000 in
theorem ps_one (v : Int)
    (h1 : ∀ W, Below w.heap.size w W → Calls Tryz.prog 39 #[.string s, .string ⟨#[43]⟩] W fun e w' => e = .returned (.tuple #[.string a, .bool false]) ∧ Below W.heap.size W w')
    (h2 : ∀ W, Below w.heap.size w W → Calls Tryz.prog 40 #[.string a, .string ⟨#[45]⟩] W fun e w' => e = .returned (.tuple #[.string b, .string c, .bool false]) ∧ Below W.heap.size W w')
    (h3 : ∀ W, Below w.heap.size w W → Calls Tryz.prog 41 #[.string b] W fun e w' => AtR (some v) e ∧ Below W.heap.size W w') :
    Calls Tryz.prog 20 #[.string s] w fun e w' => e = .returned (psV (some (v, wrap64 (v + 1)))) ∧ Below w.heap.size w w' := by
  have hb0 : Below w.heap.size w (w.alloc (.cells #[.int .i64 0, .int .i64 0] 35)) := (Below.refl _ _).alloc (Nat.le_refl _) _
  have HC : Hid (∀ W, Below (w.alloc (.cells #[.int .i64 0, .int .i64 0] 35)).heap.size (w.alloc (.cells #[.int .i64 0, .int .i64 0] 35)) W → W.cell? ⟨w.heap.size, 0, none⟩ = some (.int .i64 0) ∧ W.cell? ⟨w.heap.size, 1, none⟩ = some (.int .i64 0) ∧ W.frozen? ⟨w.heap.size, 0, none⟩ = false ∧ W.frozen? ⟨w.heap.size, 1, none⟩ = false) := Lib.hid fun W hb =>
    ⟨(hb.cell (p := ⟨w.heap.size, 0, none⟩) (by simp)).trans (by simp), (hb.cell (p := ⟨w.heap.size, 1, none⟩) (by simp)).trans (by simp), (hb.frozen (p := ⟨w.heap.size, 0, none⟩) (by simp)).trans (by simp), (hb.frozen (p := ⟨w.heap.size, 1, none⟩) (by simp)).trans (by simp)⟩
  have HB : Hid (∀ W x y, Below (w.alloc (.cells #[.int .i64 0, .int .i64 0] 35)).heap.size (w.alloc (.cells #[.int .i64 0, .int .i64 0] 35)) W → Below w.heap.size w ((W.setCell ⟨w.heap.size, 0, none⟩ x).setCell ⟨w.heap.size, 1, none⟩ y)) := Lib.hid fun W x y h => ((hb0.trans (h.mono hb0.size)).setCell (p := ⟨w.heap.size, 0, none⟩) (Nat.le_refl _) _).setCell (p := ⟨w.heap.size, 1, none⟩) (Nat.le_refl _) _
  have H1 := Lib.hid (h1 _ hb0)
  have H2 : Hid (∀ W, Below (w.alloc (.cells #[.int .i64 0, .int .i64 0] 35)).heap.size (w.alloc (.cells #[.int .i64 0, .int .i64 0] 35)) W → _) := Lib.hid fun W h => h2 W (hb0.trans (h.mono hb0.size))
  have H3 : Hid (∀ W, Below (w.alloc (.cells #[.int .i64 0, .int .i64 0] 35)).heap.size (w.alloc (.cells #[.int .i64 0, .int .i64 0] 35)) W → _) := Lib.hid fun W h => h3 W (hb0.trans (h.mono hb0.size))
  clear h1 h2 h3 hb0
  go_enter Tryz.func20, Tryz.ntmps20
  go_wp2_with (first
    | (go_at_call 39; ((with_reducible refine (H1.out).mono ?_); rintro e w1 ⟨rfl, hb1⟩))
    | (go_at_call 40; ((with_reducible refine (H2.out _ hb1).mono ?_); rintro e w2 ⟨rfl, hb2⟩; have hb12 := hb1.trans (hb2.mono hb1.size)))
    | (go_at_call 41; ((with_reducible refine (H3.out _ hb12).mono ?_); rintro e w3 ⟨rfl, hb3⟩; have hbz := hb12.trans (hb3.mono hb12.size); obtain ⟨k1, k2, k3, k4⟩ := HC.out _ hbz)))
  (try simp only [Exit.inBlock, Exit.then])
  refine bodyPost_ret (psp_res _ _ _ _ _ _ _ rfl k1 k2) rfl ?_
  exact ⟨rfl, HB.out _ _ _ hbz⟩
set_option maxHeartbeats 1000000 in
theorem ps_two (v u : Int)
    (h1 : ∀ W, Below w.heap.size w W → Calls Tryz.prog 39 #[.string s, .string ⟨#[43]⟩] W fun e w' => e = .returned (.tuple #[.string a, .bool false]) ∧ Below W.heap.size W w')
    (h2 : ∀ W, Below w.heap.size w W → Calls Tryz.prog 40 #[.string a, .string ⟨#[45]⟩] W fun e w' => e = .returned (.tuple #[.string b, .string c, .bool true]) ∧ Below W.heap.size W w')
    (h3 : ∀ W, Below w.heap.size w W → Calls Tryz.prog 41 #[.string b] W fun e w' => AtR (some v) e ∧ Below W.heap.size W w')
    (h4 : ∀ W, Below w.heap.size w W → Calls Tryz.prog 41 #[.string c] W fun e w' => AtR (some u) e ∧ Below W.heap.size W w') :
    Calls Tryz.prog 20 #[.string s] w fun e w' => e = .returned (psV (some (v, wrap64 (u + 1)))) ∧ Below w.heap.size w w' := by
  have hb0 : Below w.heap.size w (w.alloc (.cells #[.int .i64 0, .int .i64 0] 35)) := (Below.refl _ _).alloc (Nat.le_refl _) _
  have HC : Hid (∀ W, Below (w.alloc (.cells #[.int .i64 0, .int .i64 0] 35)).heap.size (w.alloc (.cells #[.int .i64 0, .int .i64 0] 35)) W → W.cell? ⟨w.heap.size, 0, none⟩ = some (.int .i64 0) ∧ W.cell? ⟨w.heap.size, 1, none⟩ = some (.int .i64 0) ∧ W.frozen? ⟨w.heap.size, 0, none⟩ = false ∧ W.frozen? ⟨w.heap.size, 1, none⟩ = false) := Lib.hid fun W hb =>
    ⟨(hb.cell (p := ⟨w.heap.size, 0, none⟩) (by simp)).trans (by simp), (hb.cell (p := ⟨w.heap.size, 1, none⟩) (by simp)).trans (by simp), (hb.frozen (p := ⟨w.heap.size, 0, none⟩) (by simp)).trans (by simp), (hb.frozen (p := ⟨w.heap.size, 1, none⟩) (by simp)).trans (by simp)⟩
  have HB : Hid (∀ W x y, Below (w.alloc (.cells #[.int .i64 0, .int .i64 0] 35)).heap.size (w.alloc (.cells #[.int .i64 0, .int .i64 0] 35)) W → Below w.heap.size w ((W.setCell ⟨w.heap.size, 0, none⟩ x).setCell ⟨w.heap.size, 1, none⟩ y)) := Lib.hid fun W x y h => ((hb0.trans (h.mono hb0.size)).setCell (p := ⟨w.heap.size, 0, none⟩) (Nat.le_refl _) _).setCell (p := ⟨w.heap.size, 1, none⟩) (Nat.le_refl _) _
  have H1 := Lib.hid (h1 _ hb0)
  have H2 : Hid (∀ W, Below (w.alloc (.cells #[.int .i64 0, .int .i64 0] 35)).heap.size (w.alloc (.cells #[.int .i64 0, .int .i64 0] 35)) W → _) := Lib.hid fun W h => h2 W (hb0.trans (h.mono hb0.size))
  have H3 : Hid (∀ W, Below (w.alloc (.cells #[.int .i64 0, .int .i64 0] 35)).heap.size (w.alloc (.cells #[.int .i64 0, .int .i64 0] 35)) W → _) := Lib.hid fun W h => h3 W (hb0.trans (h.mono hb0.size))
  have H4 : Hid (∀ W, Below (w.alloc (.cells #[.int .i64 0, .int .i64 0] 35)).heap.size (w.alloc (.cells #[.int .i64 0, .int .i64 0] 35)) W → _) := Lib.hid fun W h => h4 W (hb0.trans (h.mono hb0.size))
  clear h1 h2 h3 h4 hb0
  go_enter Tryz.func20, Tryz.ntmps20
  go_wp2_with (first
    | (go_at_call 39; ((with_reducible refine (H1.out).mono ?_); rintro e w1 ⟨rfl, hb1⟩))
    | (go_at_call 40; ((with_reducible refine (H2.out _ hb1).mono ?_); rintro e w2 ⟨rfl, hb2⟩; have hb12 := hb1.trans (hb2.mono hb1.size)))
    | (go_at_call 41; ((with_reducible refine (H3.out _ hb12).mono ?_); rintro e w3 ⟨rfl, hb3⟩; have hb13 := hb12.trans (hb3.mono hb12.size)))
    | (go_at_call 41; ((with_reducible refine (H4.out _ hb13).mono ?_); rintro e w4 ⟨rfl, hb4⟩; have hbz := hb13.trans (hb4.mono hb13.size); obtain ⟨k1, k2, k3, k4⟩ := HC.out _ hbz)))
  (try simp only [Exit.inBlock, Exit.then])
  refine bodyPost_ret (psp_res _ _ _ _ _ _ _ rfl k1 k2) rfl ?_
  exact ⟨rfl, HB.out _ _ _ hbz⟩
set_option maxHeartbeats 1000000 in
theorem ps_half (v : Int)
    (h1 : ∀ W, Below w.heap.size w W → Calls Tryz.prog 39 #[.string s, .string ⟨#[43]⟩] W fun e w' => e = .returned (.tuple #[.string a, .bool false]) ∧ Below W.heap.size W w')
    (h2 : ∀ W, Below w.heap.size w W → Calls Tryz.prog 40 #[.string a, .string ⟨#[45]⟩] W fun e w' => e = .returned (.tuple #[.string b, .string c, .bool true]) ∧ Below W.heap.size W w')
    (h3 : ∀ W, Below w.heap.size w W → Calls Tryz.prog 41 #[.string b] W fun e w' => AtR (some v) e ∧ Below W.heap.size W w')
    (h4 : ∀ W, Below w.heap.size w W → Calls Tryz.prog 41 #[.string c] W fun e w' => AtR none e ∧ Below W.heap.size W w') :
    Calls Tryz.prog 20 #[.string s] w fun e w' => e = .returned (psV none) ∧ Below w.heap.size w w' := by
  have hb0 : Below w.heap.size w (w.alloc (.cells #[.int .i64 0, .int .i64 0] 35)) := (Below.refl _ _).alloc (Nat.le_refl _) _
  have HC : Hid (∀ W, Below (w.alloc (.cells #[.int .i64 0, .int .i64 0] 35)).heap.size (w.alloc (.cells #[.int .i64 0, .int .i64 0] 35)) W → W.cell? ⟨w.heap.size, 0, none⟩ = some (.int .i64 0) ∧ W.cell? ⟨w.heap.size, 1, none⟩ = some (.int .i64 0) ∧ W.frozen? ⟨w.heap.size, 0, none⟩ = false ∧ W.frozen? ⟨w.heap.size, 1, none⟩ = false) := Lib.hid fun W hb =>
    ⟨(hb.cell (p := ⟨w.heap.size, 0, none⟩) (by simp)).trans (by simp), (hb.cell (p := ⟨w.heap.size, 1, none⟩) (by simp)).trans (by simp), (hb.frozen (p := ⟨w.heap.size, 0, none⟩) (by simp)).trans (by simp), (hb.frozen (p := ⟨w.heap.size, 1, none⟩) (by simp)).trans (by simp)⟩
  have HB : Hid (∀ W x y, Below (w.alloc (.cells #[.int .i64 0, .int .i64 0] 35)).heap.size (w.alloc (.cells #[.int .i64 0, .int .i64 0] 35)) W → Below w.heap.size w ((W.setCell ⟨w.heap.size, 0, none⟩ x).setCell ⟨w.heap.size, 1, none⟩ y)) := Lib.hid fun W x y h => ((hb0.trans (h.mono hb0.size)).setCell (p := ⟨w.heap.size, 0, none⟩) (Nat.le_refl _) _).setCell (p := ⟨w.heap.size, 1, none⟩) (Nat.le_refl _) _
  have H1 := Lib.hid (h1 _ hb0)
  have H2 : Hid (∀ W, Below (w.alloc (.cells #[.int .i64 0, .int .i64 0] 35)).heap.size (w.alloc (.cells #[.int .i64 0, .int .i64 0] 35)) W → _) := Lib.hid fun W h => h2 W (hb0.trans (h.mono hb0.size))
  have H3 : Hid (∀ W, Below (w.alloc (.cells #[.int .i64 0, .int .i64 0] 35)).heap.size (w.alloc (.cells #[.int .i64 0, .int .i64 0] 35)) W → _) := Lib.hid fun W h => h3 W (hb0.trans (h.mono hb0.size))
  have H4 : Hid (∀ W, Below (w.alloc (.cells #[.int .i64 0, .int .i64 0] 35)).heap.size (w.alloc (.cells #[.int .i64 0, .int .i64 0] 35)) W → _) := Lib.hid fun W h => h4 W (hb0.trans (h.mono hb0.size))
  clear h1 h2 h3 h4 hb0
  go_enter Tryz.func20, Tryz.ntmps20
  go_wp2_with (first
    | (go_at_call 39; ((with_reducible refine (H1.out).mono ?_); rintro e w1 ⟨rfl, hb1⟩))
    | (go_at_call 40; ((with_reducible refine (H2.out _ hb1).mono ?_); rintro e w2 ⟨rfl, hb2⟩; have hb12 := hb1.trans (hb2.mono hb1.size)))
    | (go_at_call 41; ((with_reducible refine (H3.out _ hb12).mono ?_); rintro e w3 ⟨rfl, hb3⟩; have hb13 := hb12.trans (hb3.mono hb12.size)))
    | (go_at_call 41; ((with_reducible refine (H4.out _ hb13).mono ?_); rintro e w4 ⟨⟨v, N, rfl⟩, hb4⟩; have hbz := hb13.trans (hb4.mono hb13.size); obtain ⟨k1, k2, k3, k4⟩ := HC.out _ hbz)))
  (try simp only [Exit.inBlock, Exit.then])
  refine bodyPost_ret (psp_res _ _ _ _ _ _ _ rfl k1 k2) rfl ?_
  exact ⟨rfl, HB.out _ _ _ hbz⟩
end
end Go.Proofs.YtplphinaeikpmaaGreatDoor
