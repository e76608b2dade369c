/-
  The contracts in the form that the laws' walks use: each call hands back the canonical list of a set; the test on the number of spans.
-/
import Derived.Test.YtplphinaeikpmaaGreatDoorAwake
namespace Go.Proofs.YtplphinaeikpmaaGreatDoor
open Go.RowKit (wrap32 wrap64 intOf Hid Below)
open Spans

open Classical in
/-- The canonical list of a set of days, where there is one. -/
noncomputable def canon (P : Int → Bool) : List Sp := if h : ∃ R, Is R P then Classical.choose h else []
theorem canon_is {P : Int → Bool} {R : List Sp} (h : Is R P) : R = canon P := by
  have he : ∃ R, Is R P := ⟨R, h⟩
  unfold canon
  rw [dif_pos he]
  exact h.unique (Classical.choose_spec he) fun _ _ _ => rfl
/-- The canonical list of a set is handed back. -/
def RetC (P : Int → Bool) (e : Ending) (w' : World) : Prop := ∃ (A : Option Addr) (n c : Nat), e = .returned (.slice A n c) ∧ SpansAt w'.heap.size w' A n (canon P) ∧ Is (canon P) P ∧ n ≤ 2000000
theorem SetRet.c {P : Int → Bool} {e : Ending} {w' : World} (h : SetRet P e w') : RetC P e w' := by
  obtain ⟨A, n, c, S, rfl, h1, h2, _, h4⟩ := h
  obtain rfl := canon_is h1
  exact ⟨A, n, c, rfl, h2, h1, h4⟩
theorem Spans.Is.val {R : List Sp} {P : Int → Bool} (h : Is R P) (d : Int) (h0 : 0 ≤ d) (h1 : d ≤ 1048576) : memB R d = P d := h.2 d h0 h1
theorem canon_eq {P Q : Int → Bool} (hP : Is (canon P) P) (hQ : Is (canon Q) Q) (h : ∀ d, 0 ≤ d → d ≤ 1048576 → P d = Q d) : canon P = canon Q := hP.unique hQ h

section
variable (La Lb : List Sp) (N M ca cb : Nat) (Aa Ab : Option Addr) (w : World)
theorem union_c (hza : SpansAt w.heap.size w Aa N La) (hzb : SpansAt w.heap.size w Ab M Lb) (hN : N ≤ 2000000) (hM : M ≤ 2000000) :
    Calls Tryz.prog 29 #[.slice Aa N ca, .slice Ab M cb] w fun e w' => RetC (fun d => memB La d || memB Lb d) e w' ∧ Below w.heap.size w w' :=
  (union_any La Lb N M ca cb Aa Ab w hza hzb hN hM).mono fun _ _ ⟨he, hb⟩ => ⟨he.c, hb⟩
theorem intersect_c (hza : SpansAt w.heap.size w Aa N La) (hzb : SpansAt w.heap.size w Ab M Lb) (hN : N ≤ 2000000) (hM : M ≤ 2000000) :
    Calls Tryz.prog 30 #[.slice Aa N ca, .slice Ab M cb] w fun e w' => RetC (fun d => memB La d && memB Lb d) e w' ∧ Below w.heap.size w w' :=
  (intersect_any La Lb N M ca cb Aa Ab w hza hzb hN hM).mono fun _ _ ⟨he, hb⟩ => ⟨he.c, hb⟩
theorem norm_c (hza : SpansAt w.heap.size w Aa N La) (hN : N ≤ 2000000) :
    Calls Tryz.prog 12 #[.slice Aa N ca] w fun e w' => RetC (memB La) e w' ∧ Below w.heap.size w w' :=
  (norm_any La N ca Aa w hza hN).mono fun _ _ ⟨he, hb⟩ => ⟨he.c, hb⟩
theorem truncate_c (t : Int) (hza : SpansAt w.heap.size w Aa N La) (hN : N ≤ 2000000) :
    Calls Tryz.prog 14 #[.slice Aa N ca, .int .i64 t] w fun e w' => RetC (fun d => memB La d && memB [(0, t)] d) e w' ∧ Below w.heap.size w w' :=
  (truncate_any La N ca Aa t w hza hN).mono fun _ _ ⟨he, hb⟩ => ⟨he.c, hb⟩
theorem extend_c (t : Int) (hza : SpansAt w.heap.size w Aa N La) (hN : N ≤ 2000000) :
    Calls Tryz.prog 13 #[.slice Aa N ca, .int .i64 t] w fun e w' => RetC (fun d => memB La d || memB [(t, 1048577)] d) e w' ∧ Below w.heap.size w w' :=
  (extendfrom_any La N ca Aa t w hza hN).mono fun _ _ ⟨he, hb⟩ => ⟨he.c, hb⟩
theorem same_c (he : La = Lb) (hza : SpansAt w.heap.size w Aa N La) (hzb : SpansAt w.heap.size w Ab M Lb) (hN : N ≤ 2000000) (hM : M ≤ 2000000) :
    Calls Tryz.prog 9 #[.slice Aa N ca, .slice Ab M cb] w fun e w' => e = .returned (.bool true) ∧ Below w.heap.size w w' := by
  subst he
  exact (same_yes La w.heap.size N M ca cb Aa Ab w hza hzb hN hM).mono fun _ _ ⟨he, hq⟩ => ⟨he, below_drawn' (Below.refl _ _) hq⟩
theorem awake_c (ht : Tab w) : Calls Tryz.prog 4 #[] w fun e w' => e = .returned (.bool true) ∧ Below w.heap.size w w' := awake_any w ht

set_option maxHeartbeats 1000000 in
theorem few1 (hN : N ≤ 140737488355328) :
    Calls Tryz.prog 5 #[.slice (some ⟨w.heap.size, 0, none⟩) 1 1] (w.alloc (.cells #[.slice Aa N ca] 22)) fun e w' => e = .returned (.bool (decide ((N : Int) ≤ 60))) ∧ Below w.heap.size w w' := by
  go_enter Tryz.func5, Tryz.ntmps5
  go_wp2
  refine wp_loop_rounds 2 ?_
  iterate 2
    rw [rounds_succ]
    go_wp2
  go_ret
  exact ⟨rfl, (Below.refl _ _).alloc (Nat.le_refl _) _⟩
set_option maxHeartbeats 1000000 in
theorem few2 (hN : N ≤ 140737488355328) (hM : M ≤ 140737488355328) :
    Calls Tryz.prog 5 #[.slice (some ⟨w.heap.size, 0, none⟩) 2 2] (w.alloc (.cells #[.slice Aa N ca, .slice Ab M cb] 22)) fun e w' => e = .returned (.bool (decide ((N : Int) + M ≤ 60))) ∧ Below w.heap.size w w' := by
  go_enter Tryz.func5, Tryz.ntmps5
  go_wp2
  refine wp_loop_rounds 3 ?_
  iterate 3
    rw [rounds_succ]
    go_wp2
  go_ret
  exact ⟨rfl, (Below.refl _ _).alloc (Nat.le_refl _) _⟩
set_option maxHeartbeats 1000000 in
theorem few3 (K cc : Nat) (Ac : Option Addr) (hN : N ≤ 140737488355328) (hM : M ≤ 140737488355328) (hK : K ≤ 140737488355328) :
    Calls Tryz.prog 5 #[.slice (some ⟨w.heap.size, 0, none⟩) 3 3] (w.alloc (.cells #[.slice Aa N ca, .slice Ab M cb, .slice Ac K cc] 22)) fun e w' => e = .returned (.bool (decide ((N : Int) + M + K ≤ 60))) ∧ Below w.heap.size w w' := by
  go_enter Tryz.func5, Tryz.ntmps5
  go_wp2
  refine wp_loop_rounds 4 ?_
  iterate 4
    rw [rounds_succ]
    go_wp2
  go_ret
  exact ⟨rfl, (Below.refl _ _).alloc (Nat.le_refl _) _⟩
end
end Go.Proofs.YtplphinaeikpmaaGreatDoor
