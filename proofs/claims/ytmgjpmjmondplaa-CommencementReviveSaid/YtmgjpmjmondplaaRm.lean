/-
  Sets of days: the mathematics of the reference's sets (of no program).
-/
import Derived.Test.YtmgjpmjmondplaaSpans
namespace Go.Proofs.Ytmgjpmjmondplaa.Rm
open Spans
def fr (L : List Sp) (k : Nat) : Int := (L.getD k (0, 0)).1
def tu (L : List Sp) (k : Nat) : Int := (L.getD k (0, 0)).2
theorem memB_iff : ∀ (L : List Sp) (d : Int), memB L d = true ↔ ∃ s ∈ L, s.1 ≤ d ∧ d < s.2
 | [], d => by simp [memB]
 | s :: r, d => by
   rw [memB, Bool.or_eq_true, memB_iff r d, decide_eq_true_eq]
   constructor
   · rintro (h | ⟨x, hx, h⟩)
     · exact ⟨s, by simp, h⟩
     · exact ⟨x, by simp [hx], h⟩
   · rintro ⟨x, hx, h⟩
     rcases List.mem_cons.1 hx with rfl | hx
     · exact Or.inl h
     · exact Or.inr ⟨x, hx, h⟩
theorem take_step (L : List Sp) (k : Nat) (hk : k < L.length) : L.take (k + 1) = L.take k ++ [(fr L k, tu L k)] := by
 rw [List.take_succ_eq_append_getElem hk]
 congr 2
 unfold fr tu
 rw [List.getD, List.getElem?_eq_getElem hk]
 rfl
theorem el_mem (P : List Sp) (k : Nat) (hk : k < P.length) : (fr P k, tu P k) ∈ P := by
 unfold fr tu
 rw [List.getD, List.getElem?_eq_getElem hk]
 exact List.getElem_mem hk
theorem apS_len (L : List Sp) (s : Sp) : (apS L s).length ≤ L.length + 1 := by
 rcases List.eq_nil_or_concat L with rfl | ⟨K, x, rfl⟩
 · simp [apS_nil]
 · rw [List.concat_eq_append, apS_snoc]
   split <;> simp
def conB (L : List Sp) (d : Int) : Bool := decide (0 ≤ d ∧ d ≤ 1048576) && memB L d
def el (zs : List Int) (k : Nat) : Int := zs.getD k 0
open Classical in
noncomputable def canon (P : Int → Bool) : List Sp := if h : ∃ R, Is R P then Classical.choose h else []
theorem canon_is {P : Int → Bool} {R : List Sp} (h : Is R P) : R = canon P := by
 have he : ∃ R, Is R P := ⟨R, h⟩
 unfold canon
 rw [dif_pos he]
 exact h.unique (Classical.choose_spec he) fun _ _ _ => rfl
theorem until_val (d t : Int) (h0 : 0 ≤ d) : memB [(0, t)] d = decide (d < t) := by simp [memB, h0]
theorem since_val (d t : Int) (h1 : d ≤ 1048576) : memB [(t, 1048577)] d = !decide (d < t) := by
 rw [Bool.eq_iff_iff]; simp [memB]; omega
end Go.Proofs.Ytmgjpmjmondplaa.Rm
