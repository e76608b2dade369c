/-
  The plain mathematics of Normalize: cutting spans to the valid days, and joining a list that is in the order of the beginnings.
-/
import Derived.Test.YtmgjpmjmondplaaSort
namespace Go.Proofs.Ytmgjpmjmondplaa
open Spans
theorem memB_iff : ∀ (L : List Sp) (d : Int), memB L d = true ↔ ∃ s ∈ L, s.1 ≤ d ∧ d < s.2
 | [], d => by simp [memB]
 | s :: r, d => by
   rw [memB, Bool.or_eq_true, memB_iff r d, decide_eq_true_eq]
   constructor
   · rintro (h | ⟨x, hx, h⟩)
     · exact ⟨s, by simp, h⟩
     · exact ⟨x, by simp [hx], h⟩
   · rintro ⟨x, hx, h⟩
     rcases List.mem_cons.1 hx with rfl | hx
     · exact Or.inl h
     · exact Or.inr ⟨x, hx, h⟩
theorem memB_perm {a b : List Sp} (h : a.Perm b) (d : Int) : memB a d = memB b d := by
 rw [Bool.eq_iff_iff, memB_iff, memB_iff]
 exact ⟨fun ⟨s, hs, hd⟩ => ⟨s, h.mem_iff.1 hs, hd⟩, fun ⟨s, hs, hd⟩ => ⟨s, h.mem_iff.2 hs, hd⟩⟩
def clampS (s : Sp) : Sp := (max s.1 0, min s.2 1048577)
def partsOf (L : List Sp) : List Sp := (L.map clampS).filter fun s => decide (s.1 < s.2)
theorem take_step (L : List Sp) (k : Nat) (hk : k < L.length) : L.take (k + 1) = L.take k ++ [(fr L k, to L k)] := by
 rw [List.take_succ_eq_append_getElem hk]
 congr 2
 unfold fr to
 rw [List.getD, List.getElem?_eq_getElem hk]
 rfl
theorem parts_keep (L : List Sp) (k : Nat) (hk : k < L.length) (h : max (fr L k) 0 < min (to L k) 1048577) : partsOf (L.take (k + 1)) = partsOf (L.take k) ++ [(max (fr L k) 0, min (to L k) 1048577)] := by
 rw [take_step L k hk]
 unfold partsOf
 rw [List.map_append, List.filter_append]
 congr 1
 simp [clampS]
 omega
theorem parts_drop (L : List Sp) (k : Nat) (hk : k < L.length) (h : ¬ max (fr L k) 0 < min (to L k) 1048577) : partsOf (L.take (k + 1)) = partsOf (L.take k) := by
 rw [take_step L k hk]
 unfold partsOf
 rw [List.map_append, List.filter_append]
 have : List.filter (fun s : Sp => decide (s.1 < s.2)) (List.map clampS [(fr L k, to L k)]) = [] := by
   simp [clampS]
   omega
 rw [this, List.append_nil]
theorem parts_len (L : List Sp) : (partsOf L).length ≤ L.length := by
 unfold partsOf
 have := List.length_filter_le (fun s : Sp => decide (s.1 < s.2)) (L.map clampS)
 simpa using this
theorem parts_ok (L : List Sp) : ∀ s ∈ partsOf L, 0 ≤ s.1 ∧ s.1 < s.2 ∧ s.2 ≤ 1048577 := by
 intro s hs
 unfold partsOf at hs
 rw [List.mem_filter, List.mem_map] at hs
 obtain ⟨⟨x, _, rfl⟩, h⟩ := hs
 have h' : (clampS x).1 < (clampS x).2 := by simpa using h
 unfold clampS at h' ⊢
 simp only at h' ⊢
 omega
theorem parts_mem (L : List Sp) (d : Int) (h0 : 0 ≤ d) (h1 : d ≤ 1048576) : memB (partsOf L) d = memB L d := by
 rw [Bool.eq_iff_iff, memB_iff, memB_iff]
 constructor
 · rintro ⟨s, hs, hd⟩
   unfold partsOf at hs
   rw [List.mem_filter, List.mem_map] at hs
   obtain ⟨⟨x, hx, rfl⟩, _⟩ := hs
   refine ⟨x, hx, ?_⟩
   unfold clampS at hd
   simp only at hd
   omega
 · rintro ⟨x, hx, hd⟩
   refine ⟨clampS x, ?_, ?_⟩
   · unfold partsOf
     rw [List.mem_filter, List.mem_map]
     refine ⟨⟨x, hx, rfl⟩, ?_⟩
     unfold clampS
     simp only [decide_eq_true_eq]
     omega
   · unfold clampS
     simp only
     omega
def foldS (P : List Sp) : List Sp := P.foldl apS []
theorem foldS_snoc (P : List Sp) (s : Sp) : foldS (P ++ [s]) = apS (foldS P) s := by simp [foldS]
theorem el_mem (P : List Sp) (k : Nat) (hk : k < P.length) : (fr P k, to P k) ∈ P := by
 unfold fr to
 rw [List.getD, List.getElem?_eq_getElem hk]
 exact List.getElem_mem hk
theorem fold_ok (P : List Sp) (ho : Ord P) (hv : ∀ s ∈ P, 0 ≤ s.1 ∧ s.1 < s.2 ∧ s.2 ≤ 1048577) : ∀ k, k ≤ P.length →
   SepL (-1) (foldS (P.take k)) ∧ (∀ d, memB (foldS (P.take k)) d = memB (P.take k) d) ∧ (0 < k → LastLe (foldS (P.take k)) (fr P (k - 1)))
 | 0, _ => ⟨trivial, fun d => rfl, fun h => absurd h (by omega)⟩
 | k + 1, hk => by
   obtain ⟨h1, h2, h3⟩ := fold_ok P ho hv k (by omega)
   have hkl : k < P.length := by omega
   obtain ⟨v1, v2, v3⟩ := hv _ (el_mem P k hkl)
   have hl : LastLe (foldS (P.take k)) (fr P k) := by
     intro x hx
     by_cases h0 : k = 0
     · subst h0
       simp [foldS] at hx
     · have := h3 (by omega) x hx
       have := ho (k - 1) k (by omega) hkl
       omega
   rw [take_step P k hkl, foldS_snoc]
   obtain ⟨a1, a2, a3⟩ := apS_ok (foldS (P.take k)) (fr P k, to P k) h1 hl v1 v2 v3
   exact ⟨a1, fun d => by rw [a2, memB_app, h2], fun _ => a3⟩
theorem apS_len (L : List Sp) (s : Sp) : (apS L s).length ≤ L.length + 1 := by
 rcases List.eq_nil_or_concat L with rfl | ⟨K, x, rfl⟩
 · simp [apS_nil]
 · rw [List.concat_eq_append, apS_snoc]
   split <;> simp
theorem fold_len : ∀ (P : List Sp) (R : List Sp), (P.foldl apS R).length ≤ R.length + P.length
 | [], R => by simp
 | s :: P, R => by
   have := fold_len P (apS R s)
   have := apS_len R s
   simp only [List.foldl_cons, List.length_cons]
   omega
theorem foldS_len (P : List Sp) : (foldS P).length ≤ P.length := by
 have := fold_len P []
 simpa [foldS] using this
theorem norm_is (L P : List Sp) (hp : P.Perm (partsOf L)) (ho : Ord P) : Is (foldS P) (memB L) := by
 obtain ⟨h1, h2, _⟩ := fold_ok P ho (fun s hs => parts_ok L s (hp.mem_iff.1 hs)) P.length (Nat.le_refl _)
 rw [List.take_length] at h1 h2
 exact ⟨h1, fun d d0 d1 => by rw [h2, memB_perm hp, parts_mem L d d0 d1]⟩
end Go.Proofs.Ytmgjpmjmondplaa
