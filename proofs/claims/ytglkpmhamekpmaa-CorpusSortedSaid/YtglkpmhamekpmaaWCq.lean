/-
  Corpus: enacted items, by the reference.
-/
import Derived.Test.YtglkpmhamekpmaaWCp
namespace Go.Proofs.Ytglkpmhamekpmaa.Po
open Go Go.Pv Go.RowKit
set_option linter.unusedSimpArgs false
open Lab Lcs Go.Proofs.Ytglkpmhamekpmaa Go.Proofs.Ytglkpmhamekpmaa.Pu
set_option maxRecDepth 10000
set_option maxHeartbeats 64000000
def deedF (f : Int → Int → It → It) (n d : Int) : Nat → List It → List Ei
 | _, [] => []
 | i, x :: l => ⟨n, (i : Nat), d, f n (i : Nat) x⟩ :: deedF f n d (i + 1) l
theorem deedF_app (f : Int → Int → It → It) (n d : Int) : ∀ (a b : List It) (i : Nat), deedF f n d i (a ++ b) = deedF f n d i a ++ deedF f n d (i + a.length) b
 | [], b, i => by simp [deedF]
 | x :: a, b, i => by
   simp only [List.cons_append, deedF, List.length_cons]
   rw [deedF_app f n d a b (i + 1), show i + 1 + a.length = i + (a.length + 1) by omega]
theorem deedF_take {f : Int → Int → It → It} {n d : Int} {l : List It} {k : Nat} {x : It} (hx : l[k]? = some x) : deedF f n d 0 (l.take (k + 1)) = deedF f n d 0 (l.take k) ++ [⟨n, (k : Nat), d, f n (k : Nat) x⟩] := by
 have hk : (l.take k).length = k := by
   have := (List.getElem?_eq_some_iff.1 hx).1
   rw [List.length_take]; omega
 rw [take_at hx, deedF_app, hk, Nat.zero_add]
 rfl
theorem deedF_len (f : Int → Int → It → It) (n d : Int) : ∀ (l : List It) (i : Nat), (deedF f n d i l).length = l.length
 | [], _ => rfl
 | x :: l, i => by simp [deedF, deedF_len f n d l (i + 1)]
def deedA (f : Int → Int → It → It) (a : Ac) : List Ei := deedF f a.num a.day 0 a.items
def deedL (f : Int → Int → It → It) (l : List Ac) : List Ei := l.flatMap (deedA f)
def deedR (l : List Ac) : List Ei := deedL (corR l) l
theorem deedL_take {f : Int → Int → It → It} {l : List Ac} {k : Nat} {a : Ac} (hx : l[k]? = some a) : deedL f (l.take (k + 1)) = deedL f (l.take k) ++ deedA f a := by
 unfold deedL
 rw [take_at hx, List.flatMap_append]; simp
theorem deedL_len (f : Int → Int → It → It) (l : List Ac) : (deedL f l).length = (l.map fun a => a.items.length).sum := by
 unfold deedL
 rw [List.length_flatMap]
 congr 1
 exact List.map_congr_left fun a _ => deedF_len f a.num a.day a.items 0
theorem sum_take (f : Ac → Nat) : ∀ (l : List Ac) (k : Nat), ((l.take k).map f).sum ≤ (l.map f).sum
 | [], k => by simp
 | a :: l, 0 => by simp
 | a :: l, k + 1 => by
   have := sum_take f l k
   simp only [List.take_succ_cons, List.map_cons, List.sum_cons]
   omega
theorem sum_at {f : Ac → Nat} {l : List Ac} {k : Nat} {a : Ac} (hx : l[k]? = some a) : ((l.take k).map f).sum + f a ≤ (l.map f).sum := by
 have := sum_take f l (k + 1)
 rw [take_at hx, List.map_append, List.sum_append] at this
 simpa using this
theorem deeds_pc (l : List Gz) (hl : l.length ≤ 1000) (hg : ∀ g ∈ l, g.acts.length ≤ 1000) (hs : ((actsR (allA l)).map fun a => a.items.length).sum ≤ 1000000) : PC Try.prog env0 13 [.sl 4 (l.map gzv)] [.sl 28 ((deedR (actsR (allA l))).map eiv)] := by
 have hAc := acts_pc l hl hg
 have hln := allA_len l hg
 have hrl : (actsR (allA l)).length ≤ (allA l).length := actsK_len _ _
 unfold deedR
 generalize actsR (allA l) = row at *
 have hal : row.length ≤ 1000000 := by omega
 clear hrl hln
 have hai : ∀ a ∈ row, a.items.length ≤ 1000000 := fun a ha => by
   obtain ⟨k, hk, rfl⟩ := List.getElem_of_mem ha
   have := sum_at (f := fun a => a.items.length) (List.getElem?_eq_getElem hk)
   omega
 have hml : (row.map acv).length = row.length := List.length_map _
 refine PC.of_va (T := tb0) eqs_ok tb_ok rfl mixed Try.func13 rfl rfl (Nat.le_of_ble_eq_true rfl) ?_; intro Γ C WK LP fin h0 hW hC hB hR hLP hfin
 (try (conv => whnf)); (repeat ((first | refine qT ?_ | refine qF ?_ | refine qO ?_ | (with_reducible intro z hz); (first | (replace hz := hz (by omega); subst hz) | subst hz) | (refine CallV.mk _ (hC _ _ _ (PCw.of hAc)) (fun js hjs => ?_); subst hjs)); (try (conv => whnf))))
 refine hLP _ _ _ Nat (fun k => ⟨[(3, .imm (.sl 7 (row.map acv))), (4, .row 1 1), (5, .imm (.int .i64 (k : Nat)))], [.dead 0, .row 44 28 1 (((deedL (corR row) (row.take k)).map eiv).map .imm)]⟩) (fun k => k ≤ row.length) (fun k => row.length - k) 0 (Nat.zero_le _) ((WeakA.row 1 ((((deedL (corR row) (row.take 0)).map eiv).map .imm)) rfl (by rfl)).trans (qSL 2 rfl rfl)) ?_
 intro k hk
 have hho := Nat.lt_or_ge k row.length
 cases hho with
 | inl hlt =>
   refine (?_ : ∀ Q : Exit → AS → Prop, vcS _ _ _ _ _ _ _ (loopQA _ _ _ _ _ _ Q)) _; intro Q
   obtain ⟨a, hak⟩ : ∃ a, row[k]? = some a := ⟨row[k], List.getElem?_eq_getElem hlt⟩
   have hst := deedL_take (f := corR row) hak
   have hln := deedL_len (corR row) (row.take k)
   have hsa := sum_at (f := fun a => a.items.length) hak
   have hmi : (a.items.map itv).length = a.items.length := List.length_map _
   unfold deedA at hst
   generalize deedL (corR row) (row.take k) = R at *
   (try (conv => whnf)); (repeat ((first | refine qT ?_ | refine qF ?_ | refine qO ?_ | (with_reducible intro z hz); (first | (replace hz := hz (by omega); subst hz) | subst hz)); (try (conv => whnf))))
   refine hLP _ _ _ Nat (fun j => ⟨[(3, .imm (.sl 7 (row.map acv))), (4, .row 1 1), (5, .imm (.int .i64 (k : Nat))), (6, .imm (.int .i64 (j : Nat)))], [.dead 0, .row 44 28 1 (((R ++ deedF (corR row) a.num a.day 0 (a.items.take j)).map eiv).map .imm)]⟩) (fun j => j ≤ a.items.length) (fun j => a.items.length - j) 0 (Nat.zero_le _) ((WeakA.row 1 ((((R ++ deedF (corR row) a.num a.day 0 (a.items.take 0)).map eiv).map .imm)) rfl (by simp [deedF])).trans (qSL 2 rfl rfl)) ?_
   intro j hj
   have hhj := Nat.lt_or_ge j a.items.length
   cases hhj with
   | inl hjl =>
     refine (?_ : ∀ Q : Exit → AS → Prop, vcS _ _ _ _ _ _ _ (loopQA _ _ _ _ _ _ Q)) _; intro Q
     obtain ⟨y, hy⟩ : ∃ y, a.items[j]? = some y := ⟨a.items[j], List.getElem?_eq_getElem hjl⟩
     have hsj := deedF_take (f := corR row) (n := a.num) (d := a.day) hy
     have hlj := deedF_len (corR row) a.num a.day (a.items.take j) 0
     have hCo := corr_pc row a.num (j : Nat) y hal hai
     rw [List.length_take] at hlj
     generalize deedF (corR row) a.num a.day 0 (a.items.take j) = D at *
     generalize corR row a.num (j : Nat) y = v at *
     have hrow : (((R ++ D).map eiv).map PV.imm).length = R.length + D.length := by simp
     rw [itv_eq y, itv_eq v] at hCo
     (try (conv => whnf)); (repeat ((first | refine qT ?_ | refine qF ?_ | refine qO ?_ | (with_reducible intro z hz); (first | (replace hz := hz (by omega); subst hz) | subst hz)); (try (conv => whnf))))
     refine Idx.mk k (acv a) _ rfl (by simp [hak]) rfl ?_
     (try (conv => whnf)); (repeat ((first | refine qT ?_ | refine qF ?_ | refine qO ?_ | (with_reducible intro z hz); (first | (replace hz := hz (by omega); subst hz) | subst hz)); (try (conv => whnf))))
     refine Idx.mk k (acv a) _ rfl (by simp [hak]) rfl ?_
     (try (conv => whnf)); (repeat ((first | refine qT ?_ | refine qF ?_ | refine qO ?_ | (with_reducible intro z hz); (first | (replace hz := hz (by omega); subst hz) | subst hz)); (try (conv => whnf))))
     refine Idx.mk k (acv a) _ rfl (by simp [hak]) rfl ?_
     (try (conv => whnf)); (repeat ((first | refine qT ?_ | refine qF ?_ | refine qO ?_ | (with_reducible intro z hz); (first | (replace hz := hz (by omega); subst hz) | subst hz)); (try (conv => whnf))))
     refine Idx.mk k (acv a) _ rfl (by simp [hak]) rfl ?_
     (try (conv => whnf)); (repeat ((first | refine qT ?_ | refine qF ?_ | refine qO ?_ | (with_reducible intro z hz); (first | (replace hz := hz (by omega); subst hz) | subst hz)); (try (conv => whnf))))
     refine Idx.mk k (acv a) _ rfl (by simp [hak]) rfl ?_
     (try (conv => whnf)); (repeat ((first | refine qT ?_ | refine qF ?_ | refine qO ?_ | (with_reducible intro z hz); (first | (replace hz := hz (by omega); subst hz) | subst hz)); (try (conv => whnf))))
     refine Idx.mk j (itv y) _ rfl (by simp [hy]) (by rw [itv_eq y]) ?_
     (try (conv => whnf)); (repeat ((first | refine qT ?_ | refine qF ?_ | refine qO ?_ | (with_reducible intro z hz); (first | (replace hz := hz (by omega); subst hz) | subst hz) | (refine CallV.mk _ (hC _ _ _ (PCw.of hCo)) (fun js hjs => ?_); subst hjs)); (try (conv => whnf))))
     exact ⟨j + 1, by omega, by dsimp only; omega, by
       dsimp only []
       rw [hsj]
       exact (WeakA.row 1 ((((R ++ (D ++ [(⟨a.num, (j : Nat), a.day, v⟩ : Ei)])).map eiv).map .imm)) rfl (by simp [eiv])).trans ((WeakA.renew 1 1 rfl (by first | omega | (intro _; rw [hk0 _ _ rfl]; exact Nat.le_of_ble_eq_true rfl)) (by repeat (first | exact trivial | refine And.intro (rgL_imms _ _ _ _) ?_ | refine And.intro rfl ?_))).trans (qSL 2 rfl rfl))⟩
   | inr hjg =>
     obtain rfl : j = a.items.length := by omega
     rw [List.take_length]
     (try (conv => whnf)); (repeat ((first | refine qT ?_ | refine qF ?_ | refine qO ?_ | (with_reducible intro z hz); (first | (replace hz := hz (by omega); subst hz) | subst hz)); (try (conv => whnf))))
     refine Idx.mk k (acv a) _ rfl (by simp [hak]) rfl ?_
     (try (conv => whnf)); (repeat ((first | refine qT ?_ | refine qF ?_ | refine qO ?_ | (with_reducible intro z hz); (first | (replace hz := hz (by omega); subst hz) | subst hz)); (try (conv => whnf))))
     exact ⟨k + 1, by omega, by dsimp only; omega, by
       dsimp only []
       rw [hst]
       exact (qSL 2 rfl rfl)⟩
 | inr hge =>
   obtain rfl : k = row.length := by omega
   rw [List.take_length]
   (try (conv => whnf)); (repeat ((first | refine qT ?_ | refine qF ?_ | refine qO ?_ | (with_reducible intro z hz); (first | (replace hz := hz (by omega); subst hz) | subst hz)); (try (conv => whnf))))
   refine Imms.mk ((deedL (corR row) row).map eiv) rfl ?_
   (try (conv => whnf)); (repeat ((first | refine qT ?_ | refine qF ?_ | refine qO ?_ | (with_reducible intro z hz); (first | (replace hz := hz (by omega); subst hz) | subst hz)); (try (conv => whnf))))
   exact hfin _ (ILes.refl _)
end Go.Proofs.Ytglkpmhamekpmaa.Po
