/-
  The mathematics of Diff: maps from IDs to hashes, lists of IDs in order. No program in it.
-/
import Derived.Test.YtopohipcpomecaaDoorWDw
import Derived.Test.YtopohipcpomecaaDoorWDx
import Derived.Test.YtopohipcpomecaaDoorWDo
namespace Go.Proofs.YtopohipcpomecaaDoor.Pd
open Go Go.Pv Go.RowKit Go.Proofs.YtopohipcpomecaaDoor.Pu Go.Proofs.YtopohipcpomecaaDoor.Pb
set_option linter.unusedSimpArgs false
open Lab Lcs Go.Proofs.YtopohipcpomecaaDoor
open Go.Proofs (ltOf)
abbrev TS := List (Trip × Str)
def mkM (L : TS) : List (IV × IV) := L.map fun p => (idv p.1, .str p.2)
def lookT : TS → Trip → Option Str
 | [], _ => none
 | p :: L, t => if p.1 = t then some p.2 else lookT L t
def putT : TS → Trip → Str → TS
 | [], t, s => [(t, s)]
 | p :: L, t, s => if p.1 = t then (p.1, s) :: L else p :: putT L t s
def delT : TS → Trip → TS
 | [], _ => []
 | p :: L, t => if p.1 = t then L else p :: delT L t
theorem eqI_id (a b : Trip) : eqI (idv a) (idv b) = decide (a = b) := by
 by_cases h : a = b
 · rw [decide_eq_true h]; exact tr_eq h
 · rw [decide_eq_false h]; have := tr_ne h; rw [Bool.not_eq_true] at this; exact this
theorem look_mk (t : Trip) : ∀ L : TS, lookM (mkM L) (idv t) = (lookT L t).map .str
 | [] => rfl
 | p :: L => by
   show (if eqI (idv p.1) (idv t) = true then _ else lookM (mkM L) (idv t)) = _
   rw [eqI_id, lookT]
   by_cases h : p.1 = t
   · rw [decide_eq_true h, if_pos rfl, if_pos h]; rfl
   · rw [decide_eq_false h, if_neg (by simp), if_neg h]; exact look_mk t L
theorem put_mk (t : Trip) (s : Str) : ∀ L : TS, putM (mkM L) (idv t) (.str s) = mkM (putT L t s)
 | [] => rfl
 | p :: L => by
   show (if eqI (idv p.1) (idv t) = true then _ else _ :: putM (mkM L) (idv t) (.str s)) = _
   rw [eqI_id, putT]
   by_cases h : p.1 = t
   · rw [decide_eq_true h, if_pos rfl, if_pos h]; rfl
   · rw [decide_eq_false h, if_neg (by simp), if_neg h, put_mk t s L]; rfl
theorem del_mk (t : Trip) : ∀ L : TS, delM (mkM L) (idv t) = mkM (delT L t)
 | [] => rfl
 | p :: L => by
   show (if eqI (idv p.1) (idv t) = true then mkM L else _ :: delM (mkM L) (idv t)) = _
   rw [eqI_id, delT]
   by_cases h : p.1 = t
   · rw [decide_eq_true h, if_pos rfl, if_pos h]
   · rw [decide_eq_false h, if_neg (by simp), if_neg h, del_mk t L]; rfl
abbrev keysT (L : TS) : List Trip := L.map Prod.fst
theorem mem_keys (t : Trip) : ∀ L : TS, t ∈ keysT L ↔ lookT L t ≠ none
 | [] => by simp [lookT]
 | p :: L => by
   rw [keysT, List.map_cons, List.mem_cons, lookT]
   by_cases h : p.1 = t
   · simp [h]
   · rw [if_neg h, ← mem_keys t L]
     constructor
     · rintro (e | e)
       · exact absurd e.symm h
       · exact e
     · exact Or.inr
theorem lookT_put (t t' : Trip) (s : Str) : ∀ L : TS, lookT (putT L t s) t' = if t = t' then some s else lookT L t'
 | [] => rfl
 | p :: L => by
   rw [putT]
   by_cases h : p.1 = t
   · rw [if_pos h, lookT, lookT, ← h]
     by_cases h2 : p.1 = t'
     · rw [if_pos h2]; exact (if_pos h2).symm
     · rw [if_neg h2, if_neg h2]; exact (if_neg h2).symm
   · rw [if_neg h, lookT, lookT, lookT_put t t' s L]
     by_cases h2 : p.1 = t'
     · rw [if_pos h2, if_pos h2, if_neg (fun e => h (by rw [h2, e]))]
     · rw [if_neg h2, if_neg h2]
theorem keys_put (t : Trip) (s : Str) : ∀ L : TS, keysT (putT L t s) = if t ∈ keysT L then keysT L else keysT L ++ [t]
 | [] => by simp [putT]
 | p :: L => by
   rw [putT]
   by_cases h : p.1 = t
   · rw [if_pos h, if_pos (by simp [h])]; rfl
   · rw [if_neg h]
     show p.1 :: keysT (putT L t s) = _
     rw [keys_put t s L]
     by_cases h2 : t ∈ keysT L
     · rw [if_pos h2, if_pos (show t ∈ keysT (p :: L) from List.mem_cons_of_mem _ h2)]; rfl
     · rw [if_neg h2, if_neg (show ¬ t ∈ keysT (p :: L) from fun e => by
         rcases List.mem_cons.1 e with e | e
         · exact h e.symm
         · exact h2 e)]
       rfl
theorem nodup_put {t : Trip} {s : Str} {L : TS} (h : (keysT L).Nodup) : (keysT (putT L t s)).Nodup := by
 rw [keys_put]
 split
 · exact h
 · rename_i hn
   rw [List.nodup_append]
   refine ⟨h, by simp, fun a ha b hb e => ?_⟩
   rw [List.mem_singleton] at hb
   exact hn (by rw [← hb, ← e]; exact ha)
theorem len_put (t : Trip) (s : Str) (L : TS) : (putT L t s).length ≤ L.length + 1 := by
 have h := congrArg List.length (keys_put t s L)
 rw [List.length_map] at h
 rw [h]
 split <;> simp
theorem del_sub (t : Trip) : ∀ L : TS, (delT L t).Sublist L
 | [] => by simp [delT]
 | p :: L => by
   rw [delT]
   split
   · exact List.sublist_cons_self _ _
   · exact (del_sub t L).cons_cons _
theorem nodup_del {t : Trip} {L : TS} (h : (keysT L).Nodup) : (keysT (delT L t)).Nodup := h.sublist ((del_sub t L).map _)
theorem lookT_del (t t' : Trip) : ∀ L : TS, (keysT L).Nodup → lookT (delT L t) t' = if t = t' then none else lookT L t'
 | [], _ => by simp [delT, lookT]
 | p :: L, hn => by
   rw [keysT, List.map_cons, List.nodup_cons] at hn
   rw [delT]
   by_cases h : p.1 = t
   · rw [if_pos h, lookT]
     by_cases h2 : t = t'
     · rw [if_pos h2]
       have := hn.1
       rw [h, h2, mem_keys] at this
       exact Classical.not_not.1 this
     · rw [if_neg h2, if_neg (by rw [h]; exact h2)]
   · rw [if_neg h, lookT, lookT, lookT_del t t' L hn.2]
     by_cases h2 : p.1 = t'
     · rw [if_pos h2, if_pos h2, if_neg (fun e => h (by rw [h2, e]))]
     · rw [if_neg h2, if_neg h2]
mutual
def visT : Ut → TS → TS
 | .mk id kind label head words kids, L => match lookT L id with
   | some _ => visTL kids L
   | none => putT (visTL kids L) id (treeE true (.mk id kind label head words kids))
def visTL : List Ut → TS → TS
 | [], L => L
 | k :: r, L => visTL r (visT k L)
end
mutual
theorem visU_mk : ∀ (u : Ut) (L : TS), visU u (mkM L) = mkM (visT u L)
 | .mk id kind label head words kids, L => by
   rw [visU, visT, look_mk, visL_mk kids L]
   cases lookT L id with
   | none => exact put_mk _ _ _
   | some _ => rfl
theorem visL_mk : ∀ (l : List Ut) (L : TS), visL l (mkM L) = mkM (visTL l L)
 | [], L => by rw [visL, visTL]
 | k :: r, L => by rw [visL, visTL, visU_mk k L, visL_mk r _]
end
theorem first_app (t : Trip) : ∀ a b : List Ut, firstU t (a ++ b) = (firstU t a).or (firstU t b)
 | [], b => rfl
 | x :: a, b => by
   rw [List.cons_append, firstU, firstU, first_app t a b]
   split <;> rfl
def fT (t : Trip) (l : List Ut) : Option Str := (firstU t l).map (treeE true)
theorem fT_app (t : Trip) (a b : List Ut) : fT t (a ++ b) = (fT t a).or (fT t b) := by
 unfold fT
 rw [first_app]
 cases firstU t a <;> rfl
mutual
theorem vis_look : ∀ (u : Ut) (L : TS) (t : Trip), lookT (visT u L) t = (lookT L t).or (fT t u.all)
 | .mk id kind label head words kids, L, t => by
   have hall : (Ut.mk id kind label head words kids).all = .mk id kind label head words kids :: Ut.alls kids := Ut.all_eq _
   have hf : fT t (.mk id kind label head words kids :: Ut.alls kids) = if id = t then some (treeE true (.mk id kind label head words kids)) else fT t (Ut.alls kids) := by
     unfold fT
     rw [firstU]
     show Option.map _ (if id = t then _ else _) = _
     split <;> rfl
   rw [visT, hall, hf]
   cases hl : lookT L id with
   | some s =>
     dsimp only
     rw [visL_look kids L t]
     by_cases h : id = t
     · rw [← h, hl]; rfl
     · rw [if_neg h]
   | none =>
     dsimp only
     rw [lookT_put, visL_look kids L t]
     by_cases h : id = t
     · rw [if_pos h, if_pos h, ← h, hl]; rfl
     · rw [if_neg h, if_neg h]
theorem visL_look : ∀ (l : List Ut) (L : TS) (t : Trip), lookT (visTL l L) t = (lookT L t).or (fT t (Ut.alls l))
 | [], L, t => by
   rw [visTL]
   simp [Ut.alls, fT, firstU]
 | k :: r, L, t => by
   rw [visTL, visL_look r _ t, vis_look k L t, Ut.alls, fT_app, Option.or_assoc]
end
mutual
theorem vis_nodup : ∀ (u : Ut) (L : TS), (keysT L).Nodup → (keysT (visT u L)).Nodup
 | .mk id kind label head words kids, L, h => by
   rw [visT]
   have := visL_nodup kids L h
   split
   · exact this
   · exact nodup_put this
theorem visL_nodup : ∀ (l : List Ut) (L : TS), (keysT L).Nodup → (keysT (visTL l L)).Nodup
 | [], L, h => by rw [visTL]; exact h
 | k :: r, L, h => by rw [visTL]; exact visL_nodup r _ (vis_nodup k L h)
end
mutual
theorem vis_len : ∀ (u : Ut) (L : TS), (visT u L).length ≤ L.length + u.count
 | .mk id kind label head words kids, L => by
   rw [visT, count_mk]
   have := visL_len kids L
   split
   · omega
   · have := len_put id (treeE true (.mk id kind label head words kids)) (visTL kids L); omega
theorem visL_len : ∀ (l : List Ut) (L : TS), (visTL l L).length ≤ L.length + Ut.counts l
 | [], L => by rw [visTL]; omega
 | k :: r, L => by
   rw [visTL, Ut.counts]
   have h1 := visL_len r (visT k L)
   have h2 := vis_len k L
   omega
end
def sumT (u : Ut) : TS := visT u []
theorem sum_look (u : Ut) (t : Trip) : lookT (sumT u) t = fT t u.all := by unfold sumT; rw [vis_look]; rfl
theorem sum_nodup (u : Ut) : (keysT (sumT u)).Nodup := vis_nodup u [] (by simp)
theorem sum_len (u : Ut) : (sumT u).length ≤ u.count := by have := vis_len u []; rw [List.length_nil, Nat.zero_add] at this; exact this
def combT (A B : TS) (t : Trip) : Option Str := match lookT B t with
 | none => lookT A t
 | some s => if lookT A t = some s then none else some s
structure InvD (A B R D : TS) : Prop where
 nr : (keysT R).Nodup
 nd : (keysT D).Nodup
 sub : ∀ p ∈ R, lookT B p.1 = some p.2
 at_ : ∀ t, lookT D t = if t ∈ keysT R then lookT A t else combT A B t
 len : D.length + R.length ≤ A.length + B.length
theorem look_of_mem : ∀ {L : TS}, (keysT L).Nodup → ∀ p ∈ L, lookT L p.1 = some p.2
 | q :: L, hn, p, hp => by
   rw [keysT, List.map_cons, List.nodup_cons] at hn
   rw [lookT]
   rcases List.mem_cons.1 hp with e | e
   · rw [e, if_pos rfl]
   · rw [if_neg (fun h => hn.1 (by rw [h]; exact List.mem_map_of_mem e))]
     exact look_of_mem hn.2 p e
theorem InvD.start {A B : TS} (ha : (keysT A).Nodup) (hb : (keysT B).Nodup) : InvD A B B A :=
 ⟨hb, ha, look_of_mem hb, fun t => by
   split
   · rfl
   · rename_i h
     rw [mem_keys] at h
     unfold combT
     rw [Classical.not_not.1 h], Nat.le_refl _⟩
theorem erase_perm {α : Type} {l : List α} {i : Nat} {x : α} (h : l[i]? = some x) : (x :: l.eraseIdx i).Perm l := by
 obtain ⟨hi, rfl⟩ := List.getElem?_eq_some_iff.1 h
 induction l generalizing i with
 | nil => simp at hi
 | cons a l ih =>
   cases i with
   | zero => exact List.Perm.refl _
   | succ i =>
     have hi2 : i < l.length := by simpa using hi
     exact (List.Perm.swap _ _ _).trans ((ih (i := i) hi2 (List.getElem?_eq_getElem hi2)).cons a)
def stepD (D : TS) (p : Trip × Str) : TS := if lookT D p.1 = some p.2 then delT D p.1 else putT D p.1 p.2
theorem InvD.step {A B R D : TS} (h : InvD A B R D) {i : Nat} {p : Trip × Str} (hp : R[i]? = some p) : InvD A B (R.eraseIdx i) (stepD D p) := by
 have hpm := erase_perm hp
 have hk : (p.1 :: keysT (R.eraseIdx i)).Perm (keysT R) := hpm.map Prod.fst
 have hnd := (hk.nodup_iff).2 h.nr
 rw [List.nodup_cons] at hnd
 have hmem : p ∈ R := List.mem_of_getElem? hp
 have hB := h.sub p hmem
 have hDp : lookT D p.1 = lookT A p.1 := by
   rw [h.at_, if_pos (List.mem_map_of_mem hmem)]
 have hlen : (R.eraseIdx i).length + 1 = R.length := by
   have := hpm.length_eq
   rwa [List.length_cons] at this
 have hlk : ∀ t, lookT (stepD D p) t = if p.1 = t then (if lookT D p.1 = some p.2 then none else some p.2) else lookT D t := by
   intro t
   unfold stepD
   split
   · rw [lookT_del _ _ _ h.nd]
   · rw [lookT_put]
 refine ⟨hnd.2, ?_, fun q hq => h.sub q (List.mem_of_mem_eraseIdx hq), fun t => ?_, ?_⟩
 · unfold stepD
   split
   · exact nodup_del h.nd
   · exact nodup_put h.nd
 · rw [hlk]
   by_cases ht : p.1 = t
   · subst ht
     rw [if_pos rfl, if_neg hnd.1, hDp]
     unfold combT
     rw [hB]
   · rw [if_neg ht, h.at_]
     have : t ∈ keysT (R.eraseIdx i) ↔ t ∈ keysT R := by
       rw [← hk.mem_iff, List.mem_cons]
       constructor
       · exact Or.inr
       · rintro (e | e)
         · exact absurd e.symm ht
         · exact e
     by_cases h2 : t ∈ keysT R
     · rw [if_pos h2, if_pos (this.2 h2)]
     · rw [if_neg h2, if_neg (fun e => h2 (this.1 e))]
 · have h1 := h.len
   have h2 := len_put p.1 p.2 D
   have h3 := (del_sub p.1 D).length_le
   unfold stepD
   split <;> omega
def Asc (l : List Trip) : Prop := l.Pairwise fun x y => lessT x y = true
theorem less_irr (x : Trip) : lessT x x = false := by rw [lessT_no]; omega
theorem less_tr {x y z : Trip} (h1 : lessT x y = true) (h2 : lessT y z = true) : lessT x z = true := by rw [lessT_iff] at *; omega
theorem less_tot {x y : Trip} (h : x ≠ y) (h2 : lessT x y = false) : lessT y x = true := by
 rw [← ltT] at h2
 cases h3 : lessT y x with
 | true => rfl
 | false => rw [← ltT] at h3; exact absurd (totT x y h2 h3) h
theorem asc_ext : ∀ {l m : List Trip}, Asc l → Asc m → (∀ t, t ∈ l ↔ t ∈ m) → l = m
 | [], [], _, _, _ => rfl
 | [], y :: m, _, _, h => absurd ((h y).2 List.mem_cons_self) (by simp)
 | x :: l, [], _, _, h => absurd ((h x).1 List.mem_cons_self) (by simp)
 | x :: l, y :: m, h1, h2, h => by
   unfold Asc at h1 h2
   rw [List.pairwise_cons] at h1 h2
   have hxy : x = y := by
     rcases List.mem_cons.1 ((h x).1 List.mem_cons_self) with e | e
     · exact e
     · rcases List.mem_cons.1 ((h y).2 List.mem_cons_self) with e2 | e2
       · exact e2.symm
       · have h3 := h2.1 x e
         have h4 := h1.1 y e2
         have := less_tr h3 h4
         rw [less_irr] at this
         cases this
   subst hxy
   congr 1
   refine asc_ext h1.2 h2.2 fun t => ⟨fun ht => ?_, fun ht => ?_⟩
   · rcases List.mem_cons.1 ((h t).1 (List.mem_cons_of_mem _ ht)) with e | e
     · subst e; have := h1.1 t ht; rw [less_irr] at this; cases this
     · exact e
   · rcases List.mem_cons.1 ((h t).2 (List.mem_cons_of_mem _ ht)) with e | e
     · subst e; have := h2.1 t ht; rw [less_irr] at this; cases this
     · exact e
theorem srt_asc {l : List Trip} (h : l.Nodup) : Asc (srtT l) := by
 have hp : (srtT l).Perm l := List.mergeSort_perm l _
 have hs : (srtT l).Pairwise fun x y => (!(ltOf cfT y x)) = true := List.pairwise_mergeSort (fun a b c h1 h2 => by
   simp only [Bool.not_eq_true'] at *
   exact swoT.ntrans _ _ _ h2 h1) (fun a b => by
   cases h3 : ltOf cfT b a with
   | false => rfl
   | true =>
     cases h4 : ltOf cfT a b with
     | false => rfl
     | true =>
       have := swoT.trans _ _ _ h3 h4
       rw [swoT.irrefl] at this
       cases this) l
 have hn : (srtT l).Nodup := (hp.nodup_iff).2 h
 unfold Asc
 refine (hs.and hn).imp fun {a b} hab => ?_
 have h1 : lessT b a = false := by rw [← ltT]; simpa using hab.1
 exact less_tot (fun e => hab.2 e.symm) h1
theorem srt_mem (l : List Trip) (t : Trip) : t ∈ srtT l ↔ t ∈ l := (List.mergeSort_perm l _).mem_iff
def insP (t : Trip) : List Trip → List Trip
 | [] => [t]
 | x :: r => if lessT x t = true then x :: insP t r else (if x = t then [t] else [t, x]) ++ r.filter fun y => decide (y ≠ t)
theorem fold_done (t : Trip) : ∀ (r acc : List Trip), r.foldl (stepP t) (acc, true) = (acc ++ r.filter (fun y => decide (y ≠ t)), true)
 | [], acc => by simp
 | x :: r, acc => by
   rw [List.foldl_cons]
   have : stepP t (acc, true) x = (acc ++ [x].filter (fun y => decide (y ≠ t)), true) := by
     unfold stepP
     by_cases h : x = t <;> simp [h]
   rw [this, fold_done t r]
   simp [List.filter_cons]
   split <;> simp
theorem fold_ins (t : Trip) : ∀ (r acc : List Trip), (if (r.foldl (stepP t) (acc, false)).2 = true then (r.foldl (stepP t) (acc, false)).1 else (r.foldl (stepP t) (acc, false)).1 ++ [t]) = acc ++ insP t r
 | [], acc => by simp [insP]
 | x :: r, acc => by
   rw [List.foldl_cons, insP]
   by_cases h : lessT x t = true
   · have hx : x ≠ t := fun e => by rw [e, less_irr] at h; cases h
     have : stepP t (acc, false) x = (acc ++ [x], false) := by unfold stepP; simp [h, hx]
     rw [this, fold_ins t r, if_pos h]
     simp
   · by_cases hx : x = t
     · have : stepP t (acc, false) x = (acc ++ [t], true) := by unfold stepP; simp [h, hx, less_irr]
       rw [this, fold_done, if_pos rfl, if_neg h, if_pos hx]
       simp
     · have : stepP t (acc, false) x = (acc ++ [t, x], true) := by unfold stepP; simp [h, hx]
       rw [this, fold_done, if_pos rfl, if_neg h, if_neg hx]
       simp
theorem putP_ins (t : Trip) (l : List Trip) : putP t l = insP t l := by
 have := fold_ins t l []
 rw [List.nil_append] at this
 exact this
theorem ins_mem (t y : Trip) : ∀ l : List Trip, y ∈ insP t l ↔ y = t ∨ y ∈ l
 | [] => by simp [insP]
 | x :: r => by
   rw [insP]
   by_cases h : lessT x t = true
   · rw [if_pos h, List.mem_cons, ins_mem t y r, List.mem_cons]
     constructor
     · rintro (e | e | e)
       · exact Or.inr (Or.inl e)
       · exact Or.inl e
       · exact Or.inr (Or.inr e)
     · rintro (e | e | e)
       · exact Or.inr (Or.inl e)
       · exact Or.inl e
       · exact Or.inr (Or.inr e)
   · rw [if_neg h]
     by_cases hx : x = t
     · rw [if_pos hx, hx]
       by_cases hy : y = t <;> simp [hy]
     · rw [if_neg hx]
       by_cases hy : y = t <;> simp [hy]
theorem ins_asc (t : Trip) : ∀ {l : List Trip}, Asc l → Asc (insP t l)
 | [], _ => by unfold Asc; simp [insP]
 | x :: r, h => by
   unfold Asc at h
   rw [List.pairwise_cons] at h
   rw [insP]
   by_cases hx : lessT x t = true
   · rw [if_pos hx]
     unfold Asc
     rw [List.pairwise_cons]
     refine ⟨fun y hy => ?_, ins_asc t h.2⟩
     rcases (ins_mem t y r).1 hy with e | e
     · rw [e]; exact hx
     · exact h.1 y e
   · rw [if_neg hx]
     have hr : Asc (r.filter fun y => decide (y ≠ t)) := h.2.sublist List.filter_sublist
     by_cases he : x = t
     · rw [if_pos he]
       show Asc (t :: r.filter _)
       unfold Asc
       rw [List.pairwise_cons]
       exact ⟨fun y hy => by rw [← he]; exact h.1 y ((List.mem_filter.1 hy).1), hr⟩
     · rw [if_neg he]
       show Asc (t :: x :: r.filter _)
       have htx : lessT t x = true := less_tot he (by simpa using hx)
       unfold Asc
       rw [List.pairwise_cons, List.pairwise_cons]
       refine ⟨fun y hy => ?_, fun y hy => h.1 y ((List.mem_filter.1 hy).1), hr⟩
       rcases List.mem_cons.1 hy with e | e
       · rw [e]; exact htx
       · exact less_tr htx (h.1 y ((List.mem_filter.1 e).1))
theorem ins_len (t : Trip) : ∀ l : List Trip, (insP t l).length ≤ l.length + 1
 | [] => by simp [insP]
 | x :: r => by
   rw [insP]
   split
   · have := ins_len t r; simp; omega
   · have := List.length_filter_le (fun y => decide (y ≠ t)) r
     generalize (r.filter fun y => decide (y ≠ t)) = F at *
     split <;> simp <;> omega
def stepA (X Y : List Ut) (out : List Trip) (x : Ut) : List Trip := if sameP X Y x.id = true then out else putP x.id out
theorem apart_inv (X Y : List Ut) : ∀ (L : List Ut) (out : List Trip), Asc out → Asc (L.foldl (stepA X Y) out) ∧ (∀ t, t ∈ L.foldl (stepA X Y) out ↔ t ∈ out ∨ ∃ x ∈ L, x.id = t ∧ sameP X Y t = false) ∧ (L.foldl (stepA X Y) out).length ≤ out.length + L.length
 | [], out, h => ⟨h, fun t => by simp, by simp⟩
 | x :: L, out, h => by
   rw [List.foldl_cons]
   by_cases hs : sameP X Y x.id = true
   · have e : stepA X Y out x = out := if_pos hs
     rw [e]
     obtain ⟨h1, h2, h3⟩ := apart_inv X Y L out h
     refine ⟨h1, fun t => ?_, by rw [List.length_cons]; omega⟩
     rw [h2]
     constructor
     · rintro (q | ⟨y, hy, q⟩)
       · exact Or.inl q
       · exact Or.inr ⟨y, List.mem_cons_of_mem _ hy, q⟩
     · rintro (q | ⟨y, hy, q1, q2⟩)
       · exact Or.inl q
       · rcases List.mem_cons.1 hy with e2 | e2
         · rw [e2] at q1
           rw [← q1, hs] at q2
           cases q2
         · exact Or.inr ⟨y, e2, q1, q2⟩
   · have e : stepA X Y out x = insP x.id out := (if_neg hs).trans (putP_ins _ _)
     rw [e]
     obtain ⟨h1, h2, h3⟩ := apart_inv X Y L (insP x.id out) (ins_asc _ h)
     refine ⟨h1, fun t => ?_, by have := ins_len x.id out; rw [List.length_cons]; omega⟩
     rw [h2, ins_mem]
     rw [Bool.not_eq_true] at hs
     constructor
     · rintro ((q | q) | ⟨y, hy, q⟩)
       · exact Or.inr ⟨x, List.mem_cons_self, q.symm, by rw [q]; exact hs⟩
       · exact Or.inl q
       · exact Or.inr ⟨y, List.mem_cons_of_mem _ hy, q⟩
     · rintro (q | ⟨y, hy, q1, q2⟩)
       · exact Or.inl (Or.inr q)
       · rcases List.mem_cons.1 hy with e2 | e2
         · exact Or.inl (Or.inl (by rw [← q1, e2]))
         · exact Or.inr ⟨y, e2, q1, q2⟩
theorem apart_len (X Y L : List Ut) : (apartK X Y L).length ≤ L.length := by
 have := (apart_inv X Y L [] (by unfold Asc; simp)).2.2
 rw [List.length_nil, Nat.zero_add] at this
 exact this
theorem first_some (t : Trip) : ∀ l : List Ut, (∃ x ∈ l, x.id = t) ↔ firstU t l ≠ none
 | [] => by simp [firstU]
 | x :: l => by
   rw [firstU]
   by_cases h : x.id = t
   · rw [if_pos h]
     exact ⟨fun _ => by simp, fun _ => ⟨x, List.mem_cons_self, h⟩⟩
   · rw [if_neg h, ← first_some t l]
     constructor
     · rintro ⟨y, hy, e⟩
       rcases List.mem_cons.1 hy with e2 | e2
       · exact absurd (by rw [← e2]; exact e) h
       · exact ⟨y, e2, e⟩
     · rintro ⟨y, hy, e⟩
       exact ⟨y, List.mem_cons_of_mem _ hy, e⟩
theorem comb_iff (a b : Ut) (t : Trip) : combT (sumT a) (sumT b) t ≠ none ↔ ∃ x ∈ a.all ++ b.all, x.id = t ∧ sameP a.all b.all t = false := by
 have e : (∃ x ∈ a.all ++ b.all, x.id = t ∧ sameP a.all b.all t = false) ↔ (firstU t a.all ≠ none ∨ firstU t b.all ≠ none) ∧ sameP a.all b.all t = false := by
   rw [← first_some, ← first_some]
   constructor
   · rintro ⟨x, hx, h1, h2⟩
     rcases List.mem_append.1 hx with h | h
     · exact ⟨Or.inl ⟨x, h, h1⟩, h2⟩
     · exact ⟨Or.inr ⟨x, h, h1⟩, h2⟩
   · rintro ⟨h | h, h2⟩
     · obtain ⟨x, hx, h1⟩ := h
       exact ⟨x, List.mem_append.2 (Or.inl hx), h1, h2⟩
     · obtain ⟨x, hx, h1⟩ := h
       exact ⟨x, List.mem_append.2 (Or.inr hx), h1, h2⟩
 rw [e]
 unfold combT sameP
 rw [sum_look, sum_look]
 unfold fT
 cases firstU t a.all with
 | none =>
   cases firstU t b.all with
   | none => simp
   | some q => simp
 | some p =>
   cases firstU t b.all with
   | none => simp
   | some q => simp
theorem diff_apart (a b : Ut) {D : TS} (h : InvD (sumT a) (sumT b) [] D) {out : List Trip} (hp : out.Perm (keysT D)) : srtT out = apartK a.all b.all (a.all ++ b.all) := by
 have hn : out.Nodup := (hp.nodup_iff).2 h.nd
 obtain ⟨h1, h2, _⟩ := apart_inv a.all b.all (a.all ++ b.all) [] (by unfold Asc; simp)
 refine asc_ext (srt_asc hn) h1 fun t => ?_
 show _ ↔ t ∈ (a.all ++ b.all).foldl (stepA a.all b.all) []
 rw [h2, srt_mem, hp.mem_iff, mem_keys, h.at_, if_neg (by simp), comb_iff]
 simp
end Go.Proofs.YtopohipcpomecaaDoor.Pd
