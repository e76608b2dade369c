/-
  The reference's Few, for gazettes.
-/
import Derived.Test.YtglkpmhamekpmaaGreatWCw
namespace Go.Proofs.YtglkpmhamekpmaaGreat.Po
open Go Go.Pv Go.RowKit
set_option linter.unusedSimpArgs false
open Lab Lcs Go.Proofs.YtglkpmhamekpmaaGreat Go.Proofs.YtglkpmhamekpmaaGreat.Pu
set_option maxRecDepth 10000
set_option maxHeartbeats 64000000
def numAs (l : List Ac) : Nat := (l.map fun a => a.items.length).sum
def numG (g : Gz) : Nat := numAs g.acts
def numZ (l : List Gz) : Nat := (l.map numG).sum
def okA (a : Ac) : Bool := decide (a.title.size ≤ 100 ∧ a.se.size ≤ 60) && a.items.all fewI
def okG (g : Gz) : Bool := decide (g.acts.length ≤ 8 ∧ g.prior.size ≤ 60) && g.acts.all okA
def fewZ (l : List Gz) (m : Int) : Bool := decide (l.length ≤ 8) && (l.all okG && decide ((numZ l : Int) ≤ m))
def FitAc (a : Ac) : Prop := a.title.size ≤ maxLen ∧ a.se.size ≤ maxLen ∧ a.items.length ≤ 140737488355328 ∧ ∀ x ∈ a.items, FitT x
def FitGz (g : Gz) : Prop := g.prior.size ≤ maxLen ∧ g.acts.length ≤ maxLen ∧ ∀ a ∈ g.acts, FitAc a
theorem sum_takeG {α : Type} (f : α → Nat) : ∀ (l : List α) (k : Nat), ((l.take k).map f).sum ≤ (l.map f).sum
 | [], k => by simp
 | a :: l, 0 => by simp
 | a :: l, k + 1 => by
   have := sum_takeG f l k
   simp only [List.take_succ_cons, List.map_cons, List.sum_cons]
   omega
theorem sum_stepG {α : Type} {f : α → Nat} {l : List α} {k : Nat} {a : α} (hx : l[k]? = some a) : ((l.take (k + 1)).map f).sum = ((l.take k).map f).sum + f a := by
 rw [take_at hx, List.map_append, List.sum_append]
 simp
theorem sum_atG {α : Type} {f : α → Nat} {l : List α} {k : Nat} {a : α} (hx : l[k]? = some a) : ((l.take k).map f).sum + f a ≤ (l.map f).sum := by
 rw [← sum_stepG hx]
 exact sum_takeG f l (k + 1)
theorem ret_of {T : Tb} {n t : Nat} {i : IV} {s : AS} {fin : List IV → Prop} (hn : t < n) (h : lookV s.A t = .imm i) (hf : fin [i]) : resA T n s [.tmp t] fin := by
 unfold resA
 rw [getN_eq, toL_get, if_pos hn, h]
 exact hf
theorem few28_pc (l : List Gz) (m : Int) (hm0 : 0 ≤ m) (hm : m ≤ 1000) (hl : l.length ≤ maxLen) (hf : ∀ g ∈ l, FitGz g) : PC Tryz.prog env0 10 [.sl 4 (l.map gzv), .int .i64 m] [.bool (fewZ l m)] := by
 have hml : (l.map gzv).length = l.length := List.length_map _
 unfold maxLen at hl
 by_cases h8 : l.length ≤ 8
 rotate_left
 · have hz : fewZ l m = false := by unfold fewZ; rw [decide_eq_false h8]; rfl
   rw [hz]
   refine PC.of_va (T := tb0) eqs_ok tb_ok rfl mixed Tryz.func10 rfl rfl (Nat.le_of_ble_eq_true rfl) ?_; intro Γ C WK LP fin h0 hW hC hB hR hLP hfin
   (try (conv => whnf)); (repeat ((first | refine qT ?_ | refine qF ?_ | refine qO ?_ | (with_reducible intro z hz); (first | (replace hz := hz (by omega); subst hz) | subst hz)); (try (conv => whnf))))
   exact hfin _ (ILes.refl _)
 have hz0 : fewZ l m = (l.all okG && decide ((numZ l : Int) ≤ m)) := by unfold fewZ; rw [decide_eq_true h8]; rfl
 rw [hz0]
 refine PC.of_va (T := tb0) eqs_ok tb_ok rfl mixed Tryz.func10 rfl rfl (Nat.le_of_ble_eq_true rfl) ?_; intro Γ C WK LP fin h0 hW hC hB hR hLP hfin
 (try (conv => whnf)); (repeat ((first | refine qT ?_ | refine qF ?_ | refine qO ?_ | (with_reducible intro z hz); (first | (replace hz := hz (by omega); subst hz) | subst hz)); (try (conv => whnf))))
 refine hLP _ _ _ Nat (fun k => ⟨[(0, .imm (.sl 4 (l.map gzv))), (1, .imm (.int .i64 m)), (5, .imm (.int .i64 (numZ (l.take k) : Nat))), (6, .imm (.int .i64 (k : Nat)))], []⟩) (fun k => k ≤ l.length ∧ (l.take k).all okG = true ∧ (numZ (l.take k) : Int) ≤ m) (fun k => l.length - k) 0 ⟨Nat.zero_le _, rfl, by simpa [numZ] using hm0⟩ ((qSL 0 rfl rfl (hE := by (repeat ((conv => whnf); first | exact trivial | refine And.intro (by first | exact WkOne.any | exact WkOne.eq (by with_reducible rfl) rfl | exact WkOne.eq (congrArg (fun z => PV.imm (IV.int IntKind.i64 z)) (by first | omega | (simp [numZ]; done) | (simp [numZ]; omega))) rfl | exact WkOne.eq (by first | (simp [numZ]; done) | fail) rfl | exact WkOne.eq rfl rfl | exact WkOne.le rfl (ILe.nil _)) ?_))))) ?_
 rintro k ⟨hk, hpre, hn⟩
 have hho := Nat.lt_or_ge k l.length
 cases hho with
 | inl hlt =>
   refine (?_ : ∀ Q : Exit → AS → Prop, ((l.all okG && decide ((numZ l : Int) ≤ m)) = false → ∀ s' : AS, lookV s'.A 4 = .imm (.bool false) → Q .ret s') → vcS _ _ _ _ _ _ _ (loopQA _ _ _ _ _ _ Q)) _ (fun hz s' h => by
     rw [hz] at hfin
     exact ret_of (by decide) h (hfin _ (ILes.refl _)))
   intro Q hRet
   clear hfin
   obtain ⟨g, hg⟩ : ∃ g, l[k]? = some g := ⟨l[k], List.getElem?_eq_getElem hlt⟩
   obtain ⟨f1, f2, f3⟩ := hf g (List.mem_of_getElem? hg)
   have hag : (g.acts.map acv).length = g.acts.length := List.length_map _
   have hst : numZ (l.take (k + 1)) = numZ (l.take k) + numG g := sum_stepG hg
   have hat : numZ (l.take k) + numG g ≤ numZ l := sum_atG hg
   unfold maxLen at f1 f2
   by_cases hga : g.acts.length ≤ 8
   rotate_left
   · have hno : l.all okG = false := all_no hg (by unfold okG; rw [decide_eq_false (fun h => hga h.1)]; rfl)
     rw [hno, Bool.false_and] at hRet
     (try (conv => whnf)); (repeat ((first | refine qT ?_ | refine qF ?_ | refine qO ?_ | (with_reducible intro z hz); (first | (replace hz := hz (by omega); subst hz) | subst hz)); (try (conv => whnf))))
     refine Idx.mk k (gzv g) _ rfl (by simp [hg]) rfl ?_
     (try (conv => whnf)); (repeat ((first | refine qT ?_ | refine qF ?_ | refine qO ?_ | (with_reducible intro z hz); (first | (replace hz := hz (by omega); subst hz) | subst hz)); (try (conv => whnf))))
     exact hRet rfl _ rfl
   by_cases hgp : g.prior.size ≤ 60
   rotate_left
   · have hno : l.all okG = false := all_no hg (by unfold okG; rw [decide_eq_false (fun h => hgp h.2)]; rfl)
     rw [hno, Bool.false_and] at hRet
     (try (conv => whnf)); (repeat ((first | refine qT ?_ | refine qF ?_ | refine qO ?_ | (with_reducible intro z hz); (first | (replace hz := hz (by omega); subst hz) | subst hz)); (try (conv => whnf))))
     refine Idx.mk k (gzv g) _ rfl (by simp [hg]) rfl ?_
     (try (conv => whnf)); (repeat ((first | refine qT ?_ | refine qF ?_ | refine qO ?_ | (with_reducible intro z hz); (first | (replace hz := hz (by omega); subst hz) | subst hz)); (try (conv => whnf))))
     refine Idx.mk k (gzv g) _ rfl (by simp [hg]) rfl ?_
     (try (conv => whnf)); (repeat ((first | refine qT ?_ | refine qF ?_ | refine qO ?_ | (with_reducible intro z hz); (first | (replace hz := hz (by omega); subst hz) | subst hz)); (try (conv => whnf))))
     exact hRet rfl _ rfl
   have hok : okG g = g.acts.all okA := by unfold okG; rw [decide_eq_true ⟨hga, hgp⟩]; rfl
   generalize numZ (l.take k) = N at *
   (try (conv => whnf)); (repeat ((first | refine qT ?_ | refine qF ?_ | refine qO ?_ | (with_reducible intro z hz); (first | (replace hz := hz (by omega); subst hz) | subst hz)); (try (conv => whnf))))
   refine Idx.mk k (gzv g) _ rfl (by simp [hg]) rfl ?_
   (try (conv => whnf)); (repeat ((first | refine qT ?_ | refine qF ?_ | refine qO ?_ | (with_reducible intro z hz); (first | (replace hz := hz (by omega); subst hz) | subst hz)); (try (conv => whnf))))
   refine Idx.mk k (gzv g) _ rfl (by simp [hg]) rfl ?_
   (try (conv => whnf)); (repeat ((first | refine qT ?_ | refine qF ?_ | refine qO ?_ | (with_reducible intro z hz); (first | (replace hz := hz (by omega); subst hz) | subst hz)); (try (conv => whnf))))
   refine hLP _ _ _ Nat (fun j => ⟨[(0, .imm (.sl 4 (l.map gzv))), (1, .imm (.int .i64 m)), (5, .imm (.int .i64 ((N + numAs (g.acts.take j) : Nat)))), (6, .imm (.int .i64 (k : Nat))), (7, .imm (.int .i64 (j : Nat)))], []⟩) (fun j => j ≤ g.acts.length ∧ (g.acts.take j).all okA = true ∧ ((N + numAs (g.acts.take j) : Nat) : Int) ≤ m) (fun j => g.acts.length - j) 0 ⟨Nat.zero_le _, rfl, by simpa [numAs] using hn⟩ ((qSL 0 rfl rfl (hE := by (repeat ((conv => whnf); first | exact trivial | refine And.intro (by first | exact WkOne.any | exact WkOne.eq (by with_reducible rfl) rfl | exact WkOne.eq (congrArg (fun z => PV.imm (IV.int IntKind.i64 z)) (by first | omega | (simp [numAs]; done) | (simp [numAs]; omega))) rfl | exact WkOne.eq (by first | (simp [numAs]; done) | fail) rfl | exact WkOne.eq rfl rfl | exact WkOne.le rfl (ILe.nil _)) ?_))))) ?_
   rintro j ⟨hj, hpj, hnj⟩
   have hhj := Nat.lt_or_ge j g.acts.length
   cases hhj with
   | inl hjl =>
     refine (?_ : ∀ Q : Exit → AS → Prop, ((l.all okG && decide ((numZ l : Int) ≤ m)) = false → ∀ s' : AS, lookV s'.A 4 = .imm (.bool false) → Q .ret s') → vcS _ _ _ _ _ _ _ (loopQA _ _ _ _ _ _ Q)) _ (fun hz s' h => hRet hz s' h)
     clear hRet
     intro Q hRet
     obtain ⟨a, ha⟩ : ∃ a, g.acts[j]? = some a := ⟨g.acts[j], List.getElem?_eq_getElem hjl⟩
     obtain ⟨a1, a2, a3, a4⟩ := f3 a (List.mem_of_getElem? ha)
     have hai : (a.items.map itv).length = a.items.length := List.length_map _
     have hsj : numAs (g.acts.take (j + 1)) = numAs (g.acts.take j) + a.items.length := sum_stepG (f := fun a : Ac => a.items.length) ha
     have htj : numAs (g.acts.take j) + a.items.length ≤ numG g := sum_atG (f := fun a : Ac => a.items.length) ha
     unfold maxLen at a1 a2
     have hgno : okA a = false → l.all okG = false := fun h => all_no hg (by rw [hok]; exact all_no ha h)
     by_cases hbig : ((N + numAs (g.acts.take j) + a.items.length : Nat) : Int) ≤ m
     rotate_left
     · have hno : decide ((numZ l : Int) ≤ m) = false := decide_eq_false (by omega)
       rw [hno, Bool.and_false] at hRet
       generalize numAs (g.acts.take j) = M at *
       (try (conv => whnf)); (repeat ((first | refine qT ?_ | refine qF ?_ | refine qO ?_ | (with_reducible intro z hz); (first | (replace hz := hz (by omega); subst hz) | subst hz)); (try (conv => whnf))))
       refine Idx.mk k (gzv g) _ rfl (by simp [hg]) rfl ?_
       (try (conv => whnf)); (repeat ((first | refine qT ?_ | refine qF ?_ | refine qO ?_ | (with_reducible intro z hz); (first | (replace hz := hz (by omega); subst hz) | subst hz)); (try (conv => whnf))))
       refine Idx.mk k (gzv g) _ rfl (by simp [hg]) rfl ?_
       (try (conv => whnf)); (repeat ((first | refine qT ?_ | refine qF ?_ | refine qO ?_ | (with_reducible intro z hz); (first | (replace hz := hz (by omega); subst hz) | subst hz)); (try (conv => whnf))))
       refine Idx.mk j (acv a) _ rfl (by simp [ha]) rfl ?_
       (try (conv => whnf)); (repeat ((first | refine qT ?_ | refine qF ?_ | refine qO ?_ | (with_reducible intro z hz); (first | (replace hz := hz (by omega); subst hz) | subst hz)); (try (conv => whnf))))
       exact hRet rfl _ rfl
     by_cases ht : a.title.size ≤ 100
     rotate_left
     · rw [hgno (by unfold okA; rw [decide_eq_false (fun h => ht h.1)]; rfl), Bool.false_and] at hRet
       generalize numAs (g.acts.take j) = M at *
       (try (conv => whnf)); (repeat ((first | refine qT ?_ | refine qF ?_ | refine qO ?_ | (with_reducible intro z hz); (first | (replace hz := hz (by omega); subst hz) | subst hz)); (try (conv => whnf))))
       refine Idx.mk k (gzv g) _ rfl (by simp [hg]) rfl ?_
       (try (conv => whnf)); (repeat ((first | refine qT ?_ | refine qF ?_ | refine qO ?_ | (with_reducible intro z hz); (first | (replace hz := hz (by omega); subst hz) | subst hz)); (try (conv => whnf))))
       refine Idx.mk k (gzv g) _ rfl (by simp [hg]) rfl ?_
       (try (conv => whnf)); (repeat ((first | refine qT ?_ | refine qF ?_ | refine qO ?_ | (with_reducible intro z hz); (first | (replace hz := hz (by omega); subst hz) | subst hz)); (try (conv => whnf))))
       refine Idx.mk j (acv a) _ rfl (by simp [ha]) rfl ?_
       (try (conv => whnf)); (repeat ((first | refine qT ?_ | refine qF ?_ | refine qO ?_ | (with_reducible intro z hz); (first | (replace hz := hz (by omega); subst hz) | subst hz)); (try (conv => whnf))))
       exact hRet rfl _ rfl
     by_cases hse : a.se.size ≤ 60
     rotate_left
     · rw [hgno (by unfold okA; rw [decide_eq_false (fun h => hse h.2)]; rfl), Bool.false_and] at hRet
       generalize numAs (g.acts.take j) = M at *
       (try (conv => whnf)); (repeat ((first | refine qT ?_ | refine qF ?_ | refine qO ?_ | (with_reducible intro z hz); (first | (replace hz := hz (by omega); subst hz) | subst hz)); (try (conv => whnf))))
       refine Idx.mk k (gzv g) _ rfl (by simp [hg]) rfl ?_
       (try (conv => whnf)); (repeat ((first | refine qT ?_ | refine qF ?_ | refine qO ?_ | (with_reducible intro z hz); (first | (replace hz := hz (by omega); subst hz) | subst hz)); (try (conv => whnf))))
       refine Idx.mk k (gzv g) _ rfl (by simp [hg]) rfl ?_
       (try (conv => whnf)); (repeat ((first | refine qT ?_ | refine qF ?_ | refine qO ?_ | (with_reducible intro z hz); (first | (replace hz := hz (by omega); subst hz) | subst hz)); (try (conv => whnf))))
       refine Idx.mk j (acv a) _ rfl (by simp [ha]) rfl ?_
       (try (conv => whnf)); (repeat ((first | refine qT ?_ | refine qF ?_ | refine qO ?_ | (with_reducible intro z hz); (first | (replace hz := hz (by omega); subst hz) | subst hz)); (try (conv => whnf))))
       exact hRet rfl _ rfl
     have hoa : okA a = a.items.all fewI := by unfold okA; rw [decide_eq_true ⟨ht, hse⟩]; rfl
     generalize numAs (g.acts.take j) = M at *
     (try (conv => whnf)); (repeat ((first | refine qT ?_ | refine qF ?_ | refine qO ?_ | (with_reducible intro z hz); (first | (replace hz := hz (by omega); subst hz) | subst hz)); (try (conv => whnf))))
     refine Idx.mk k (gzv g) _ rfl (by simp [hg]) rfl ?_
     (try (conv => whnf)); (repeat ((first | refine qT ?_ | refine qF ?_ | refine qO ?_ | (with_reducible intro z hz); (first | (replace hz := hz (by omega); subst hz) | subst hz)); (try (conv => whnf))))
     refine Idx.mk k (gzv g) _ rfl (by simp [hg]) rfl ?_
     (try (conv => whnf)); (repeat ((first | refine qT ?_ | refine qF ?_ | refine qO ?_ | (with_reducible intro z hz); (first | (replace hz := hz (by omega); subst hz) | subst hz)); (try (conv => whnf))))
     refine Idx.mk j (acv a) _ rfl (by simp [ha]) rfl ?_
     (try (conv => whnf)); (repeat ((first | refine qT ?_ | refine qF ?_ | refine qO ?_ | (with_reducible intro z hz); (first | (replace hz := hz (by omega); subst hz) | subst hz)); (try (conv => whnf))))
     refine hLP _ _ _ Nat (fun i => ⟨[(0, .imm (.sl 4 (l.map gzv))), (1, .imm (.int .i64 m)), (5, .imm (.int .i64 ((N + (M + a.items.length) : Nat)))), (6, .imm (.int .i64 (k : Nat))), (7, .imm (.int .i64 (j : Nat))), (8, .ptr 0 1 0), (9, .imm (.int .i64 (i : Nat)))], [bxA a]⟩) (fun i => i ≤ a.items.length ∧ (a.items.take i).all fewI = true) (fun i => a.items.length - i) 0 ⟨Nat.zero_le _, rfl⟩ ((qSL 1 rfl rfl)) ?_
     rintro i ⟨hi, hpi⟩
     have hhi := Nat.lt_or_ge i a.items.length
     cases hhi with
     | inl hil =>
       refine (?_ : ∀ Q : Exit → AS → Prop, ((l.all okG && decide ((numZ l : Int) ≤ m)) = false → ∀ s' : AS, lookV s'.A 4 = .imm (.bool false) → Q .ret s') → vcS _ _ _ _ _ _ _ (loopQA _ _ _ _ _ _ Q)) _ (fun hz s' h => hRet hz s' h)
       clear hRet
       intro Q hRet
       obtain ⟨x, hx⟩ : ∃ x, a.items[i]? = some x := ⟨a.items[i], List.getElem?_eq_getElem hil⟩
       have hF := few17_pc x (a4 x (List.mem_of_getElem? hx))
       rw [itv_eq x] at hF
       cases hfx : fewI x with
       | true =>
         rw [hfx] at hF
         (try (conv => whnf)); (repeat ((first | refine qT ?_ | refine qF ?_ | refine qO ?_ | (with_reducible intro z hz); (first | (replace hz := hz (by omega); subst hz) | subst hz)); (try (conv => whnf))))
         refine Idx.mk i (itv x) _ rfl (by simp [hx]) (by rw [itv_eq x]) ?_
         (try (conv => whnf)); (repeat ((first | refine qT ?_ | refine qF ?_ | refine qO ?_ | (with_reducible intro z hz); (first | (replace hz := hz (by omega); subst hz) | subst hz) | (refine CallV.mk _ (hC _ _ _ (PCw.of hF)) (fun js hjs => ?_); subst hjs)); (try (conv => whnf))))
         exact ⟨i + 1, ⟨by omega, all_take hx hpi hfx⟩, by dsimp only; omega, (qSL 1 rfl rfl)⟩
       | false =>
         rw [hfx] at hF
         rw [hgno (by rw [hoa]; exact all_no hx hfx), Bool.false_and] at hRet
         (try (conv => whnf)); (repeat ((first | refine qT ?_ | refine qF ?_ | refine qO ?_ | (with_reducible intro z hz); (first | (replace hz := hz (by omega); subst hz) | subst hz)); (try (conv => whnf))))
         refine Idx.mk i (itv x) _ rfl (by simp [hx]) (by rw [itv_eq x]) ?_
         (try (conv => whnf)); (repeat ((first | refine qT ?_ | refine qF ?_ | refine qO ?_ | (with_reducible intro z hz); (first | (replace hz := hz (by omega); subst hz) | subst hz) | (refine CallV.mk _ (hC _ _ _ (PCw.of hF)) (fun js hjs => ?_); subst hjs)); (try (conv => whnf))))
         exact hRet rfl _ rfl
     | inr hig =>
       obtain rfl : i = a.items.length := by omega
       rw [List.take_length] at hpi
       (try (conv => whnf)); (repeat ((first | refine qT ?_ | refine qF ?_ | refine qO ?_ | (with_reducible intro z hz); (first | (replace hz := hz (by omega); subst hz) | subst hz)); (try (conv => whnf))))
       exact ⟨j + 1, ⟨by omega, all_take ha hpj (by rw [hoa]; exact hpi), by rw [hsj]; omega⟩, by dsimp only; omega, by
         dsimp only []
         rw [hsj]
         exact (qSL 0 rfl rfl)⟩
   | inr hjg =>
     obtain rfl : j = g.acts.length := by omega
     rw [List.take_length] at hpj hnj
     rw [List.take_length]
     have hgn : numAs g.acts = numG g := rfl
     rw [hgn] at hnj ⊢
     (try (conv => whnf)); (repeat ((first | refine qT ?_ | refine qF ?_ | refine qO ?_ | (with_reducible intro z hz); (first | (replace hz := hz (by omega); subst hz) | subst hz)); (try (conv => whnf))))
     refine Idx.mk k (gzv g) _ rfl (by simp [hg]) rfl ?_
     (try (conv => whnf)); (repeat ((first | refine qT ?_ | refine qF ?_ | refine qO ?_ | (with_reducible intro z hz); (first | (replace hz := hz (by omega); subst hz) | subst hz)); (try (conv => whnf))))
     exact ⟨k + 1, ⟨by omega, all_take hg hpre (by rw [hok]; exact hpj), by rw [hst]; exact hnj⟩, by dsimp only; omega, by
       dsimp only []
       rw [hst]
       exact (qSL 0 rfl rfl)⟩
 | inr hge =>
   obtain rfl : k = l.length := by omega
   rw [List.take_length] at hpre hn
   rw [hpre, decide_eq_true hn] at hfin
   (try (conv => whnf)); (repeat ((first | refine qT ?_ | refine qF ?_ | refine qO ?_ | (with_reducible intro z hz); (first | (replace hz := hz (by omega); subst hz) | subst hz)); (try (conv => whnf))))
   exact hfin _ (ILes.refl _)
end Go.Proofs.YtglkpmhamekpmaaGreat.Po
