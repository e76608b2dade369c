/-
  Days in force, as sets (of no program but for the names).
-/
import Derived.Test.YtmgjpmjmondplaaWAe
import Derived.Test.YtmgjpmjmondplaaWAc
namespace Go.Proofs.Ytmgjpmjmondplaa.Pe
open Go Go.Pv Go.RowKit
set_option linter.unusedSimpArgs false
open Spans Rm
set_option maxRecDepth 10000
def truncL (t : Int) : List Sp → List Sp
 | [] => []
 | s :: r => if s.1 < t then (s.1, min s.2 t) :: truncL t r else []
theorem trunc_len (t : Int) : ∀ L : List Sp, (truncL t L).length ≤ L.length
 | [] => by simp [truncL]
 | s :: r => by
   unfold truncL
   split
   · simpa using trunc_len t r
   · simp
theorem trunc_none {t : Int} : ∀ {L : List Sp} {lo : Int}, SepL lo L → t ≤ lo → truncL t L = []
 | [], _, _, _ => rfl
 | s :: r, lo, h, ht => by
   unfold truncL
   rw [if_neg (by have := h.1; omega)]
theorem trunc_sep {t : Int} : ∀ {L : List Sp} {lo : Int}, SepL lo L → SepL lo (truncL t L)
 | [], _, _ => trivial
 | s :: r, lo, h => by
   obtain ⟨h1, h2, h3, h4⟩ := h
   unfold truncL
   split
   · rename_i ht
     refine ⟨h1, by simp only []; omega, by simp only []; omega, ?_⟩
     by_cases hm : s.2 ≤ t
     · rw [show min s.2 t = s.2 by omega]; exact trunc_sep h4
     · rw [trunc_none h4 (by omega)]; trivial
   · trivial
theorem trunc_mem {t : Int} : ∀ {L : List Sp} {lo : Int}, SepL lo L → ∀ d, memB (truncL t L) d = (memB L d && decide (d < t))
 | [], _, _, d => by simp [truncL, memB]
 | s :: r, lo, h, d => by
   obtain ⟨h1, h2, h3, h4⟩ := h
   unfold truncL
   split
   · rename_i ht
     rw [memB, memB, trunc_mem h4 d, Bool.and_or_distrib_right]
     congr 1
     rw [Bool.eq_iff_iff]
     simp
     omega
   · rename_i ht
     by_cases hd : d < t
     · have : memB (s :: r) d = false := mem_low (s :: r) (s.1 - 1) d ⟨by omega, h2, h3, h4⟩ (by omega)
       rw [this]; rfl
     · rw [decide_eq_false hd, Bool.and_false]; rfl
theorem trunc_last {t : Int} : ∀ L : List Sp, ∀ x ∈ truncL t L, x.1 < t
 | [], x, h => by simp [truncL] at h
 | s :: r, x, h => by
   unfold truncL at h
   split at h
   · rcases List.mem_cons.1 h with rfl | h
     · assumption
     · exact trunc_last r x h
   · cases h
def HasC (P : Int → Bool) (n : Nat) : Prop := Is (canon P) P ∧ (canon P).length ≤ n
theorem HasC.of {P : Int → Bool} {R : List Sp} {n : Nat} (h : Is R P) (hn : R.length ≤ n) : HasC P n := by
 have e := canon_is h
 exact ⟨e ▸ h, e ▸ hn⟩
theorem HasC.val {P : Int → Bool} {n : Nat} (h : HasC P n) (d : Int) (h0 : 0 ≤ d) (h1 : d ≤ 1048576) : memB (canon P) d = P d := h.1.2 d h0 h1
theorem HasC.trunc {P : Int → Bool} {n : Nat} (h : HasC P n) (t : Int) : HasC (fun d => P d && memB [(0, t)] d) n :=
 .of (R := truncL t (canon P)) ⟨trunc_sep h.1.1, fun d h0 h1 => by dsimp only; rw [trunc_mem h.1.1, h.val d h0 h1, until_val d t h0]⟩ (Nat.le_trans (trunc_len _ _) h.2)
theorem HasC.ext {P : Int → Bool} {n : Nat} (h : HasC P n) (t : Int) : HasC (fun d => P d || memB [(t, 1048577)] d) (n + 1) := by
 by_cases ht : t ≤ 1048576
 · have ok := apS_ok (truncL (max t 0) (canon P)) (max t 0, 1048577) (trunc_sep h.1.1) (fun x hx => by
     have := trunc_last (t := max t 0) (canon P) x (List.mem_of_getLast? hx)
     simp only []; omega) (by simp only []; omega) (by simp only []; omega) (Int.le_refl _)
   refine .of (R := apS (truncL (max t 0) (canon P)) (max t 0, 1048577)) ⟨ok.1, fun d h0 h1 => ?_⟩ ?_
   · dsimp only; rw [ok.2.1 d, trunc_mem h.1.1, h.val d h0 h1, since_val d t h1, since_val d (max t 0) h1]
     cases P d <;> simp <;> omega
   · have := apS_len (truncL (max t 0) (canon P)) (max t 0, 1048577)
     have := trunc_len (max t 0) (canon P)
     have := h.2
     omega
 · refine .of (R := canon P) ⟨h.1.1, fun d h0 h1 => ?_⟩ (by have := h.2; omega)
   dsimp only; rw [h.val d h0 h1, since_val d t h1, decide_eq_true (show d < t by omega), Bool.not_true, Bool.or_false]
def stD (s : St) (l : List En) : Option Int := if s.k = 1 then some s.d else if s.k = 3 then evD s.e l else none
def dayP : Option Int → Int → Bool
 | none => fun _ => false
 | some t => memB [(t, 1048577)]
theorem dayP_has (o : Option Int) : HasC (dayP o) 1 := by
 cases o with
 | none => exact .of (R := []) ⟨trivial, fun _ _ _ => rfl⟩ (by simp)
 | some t =>
   have h0 : HasC (fun _ => false) 0 := .of (R := []) ⟨trivial, fun _ _ _ => rfl⟩ (by simp)
   have := h0.ext t
   simpa [dayP] using this
theorem day_none : canon (dayP none) = [] := (canon_is (R := []) (P := dayP none) ⟨trivial, fun _ _ _ => rfl⟩).symm
def stepD (e : En) (P : Int → Bool) (x : En) : Int → Bool :=
 if refers x.it e.act e.item = true then (if x.it.kind = 8 then fun d => P d && memB [(0, x.it.d)] d else if x.it.kind = 11 then P else fun d => P d || memB [(x.it.d, 1048577)] d) else P
def daysP (P : Int → Bool) (e : En) (l : List En) : Int → Bool := l.foldl (stepD e) P
theorem step_has {e : En} {P : Int → Bool} {n : Nat} (x : En) (h : HasC P n) : HasC (stepD e P x) (n + 1) := by
 have h' : HasC P (n + 1) := ⟨h.1, Nat.le_succ_of_le h.2⟩
 unfold stepD
 split
 · split
   · exact ⟨(h.trunc _).1, Nat.le_succ_of_le (h.trunc _).2⟩
   · split
     · exact h'
     · exact h.ext _
 · exact h'
theorem days_has {e : En} : ∀ {l : List En} {P : Int → Bool} {n : Nat}, HasC P n → HasC (daysP P e l) (n + l.length)
 | [], _, _, h => h
 | x :: l, P, n, h => by
   have := days_has (e := e) (l := l) (step_has (e := e) x h)
   rw [List.length_cons, show n + (l.length + 1) = n + 1 + l.length by omega]
   exact this
theorem days_take {P : Int → Bool} {e : En} {l : List En} {k : Nat} {x : En} (hx : l[k]? = some x) : daysP P e (l.take (k + 1)) = stepD e (daysP P e (l.take k)) x := by
 unfold daysP
 rw [take_at hx, List.foldl_append, List.foldl_cons, List.foldl_nil]
noncomputable def forceL (a : St) (e : En) (l : List En) : List Sp := if 0 ≤ e.it.kind ∧ e.it.kind ≤ 6 then canon (daysP (dayP (stD (effS a e.it.st) l)) e l) else []
end Go.Proofs.Ytmgjpmjmondplaa.Pe
