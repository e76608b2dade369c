/-
  Corpus: the law of order.
-/
import Derived.Test.YtglkpmhamekpmaaWDj
namespace Go.Proofs.Ytglkpmhamekpmaa.Po
open Go Go.Pv Go.RowKit
set_option linter.unusedSimpArgs false
open Lab Lcs Go.Proofs.Ytglkpmhamekpmaa Go.Proofs.Ytglkpmhamekpmaa.Pu
set_option maxRecDepth 10000
set_option maxHeartbeats 32000000
theorem Few30.acts' {l : List Gz} {m : Nat} (h : Few30 l m) : PC Try.prog env0 21 [.sl 4 (l.map gzv)] [.sl 7 ((actsR (allA l)).map acv)] := by
 have hl := h.len
 have hp : ((regO l).acts.map Prod.snd).Perm (actsR (allA l)) := by
   rw [regO_all]
   have := actsK_perm (allA l) (allA l).length (Nat.le_refl _)
   unfold rgK at this
   rw [List.take_length] at this
   exact this.symm
 have h1 := hp.length_eq
 have h2 := actsK_len (allA l) (allA l).length
 have h3 := allA_len l (fun g hg => by have := h.acts g hg; omega)
 rw [List.length_map] at h1
 rw [show actsK (allA l) (allA l).length = actsR (allA l) from rfl] at h2
 exact actsP_of l (by omega) h.small h.fit (by omega)
theorem deedF_strict (f : Int → Int → It → It) {n d : Int} : ∀ (l : List It) (k : Nat), (deedF f n d k l).Pairwise fun a b => legE a b < 0
 | [], _ => List.Pairwise.nil
 | x :: l, k => by
   rw [deedF, List.pairwise_cons]
   refine ⟨fun e he => ?_, deedF_strict f l (k + 1)⟩
   obtain ⟨h1, h2, h3⟩ := deedF_eis f n d l (k + 1) e he
   rw [legE_lt]
   simp only
   omega
theorem flat_strict : ∀ {l : List Ac}, l.Pairwise ltA → ∀ (g : Ac → List Ei), (∀ a, (g a).Pairwise fun a b => legE a b < 0) → (∀ a, ∀ e ∈ g a, e.act = a.num ∧ e.day = a.day) → (l.flatMap g).Pairwise fun a b => legE a b < 0
 | [], _, _, _, _ => List.Pairwise.nil
 | a :: l, hs, g, hg, hk => by
   rw [List.pairwise_cons] at hs
   rw [List.flatMap_cons, List.pairwise_append]
   refine ⟨hg a, flat_strict hs.2 g hg hk, fun x hx y hy => ?_⟩
   obtain ⟨b, hb, hy⟩ := List.mem_flatMap.1 hy
   have h1 := hs.1 b hb
   have h2 := hk a x hx
   have h3 := hk b y hy
   unfold ltA at h1
   rw [legE_lt]
   omega
theorem deeds_strict (l : List Gz) : (deeds l).Pairwise fun a b => legE a b < 0 := by
 have hs := actsK_sorted (allA l) (allA l).length (Nat.le_refl _)
 unfold deeds deedR deedL
 exact flat_strict hs _ (fun a => deedF_strict _ a.items 0) (fun a e he => by
   obtain ⟨h1, h2, _⟩ := deedF_eis _ a.num a.day a.items 0 e he
   exact ⟨h1, h2⟩)
theorem strict_at {l : List Ei} (h : l.Pairwise fun a b => legE a b < 0) {k : Nat} {a b : Ei} (ha : l[k]? = some a) (hb : l[k + 1]? = some b) : legE a b < 0 := by
 obtain ⟨h1, rfl⟩ := List.getElem?_eq_some_iff.1 ha
 obtain ⟨h2, rfl⟩ := List.getElem?_eq_some_iff.1 hb
 exact List.pairwise_iff_getElem.1 h k (k + 1) h1 h2 (by omega)
theorem Few30.finds {l : List Gz} {m : Nat} (h : Few30 l m) {e : Ei} (he : e ∈ Po.deeds l) : findL (Po.deeds l) e.act e.item = some e := by
 have hg := good_reg h.fit
 have hp := deeds_perm l
 rw [findL_iff fun x hx y hy => flat_same hg (hp.subset hx) (hp.subset hy)]
 exact ⟨he, rfl, rfl⟩
def sumI (l : List Ac) : Nat := (l.map fun a => a.items.length).sum
theorem sumI_take {l : List Ac} {k : Nat} {a : Ac} (h : l[k]? = some a) : sumI (l.take (k + 1)) = sumI (l.take k) + a.items.length := by
 unfold sumI
 rw [take_at h, List.map_append, List.sum_append]
 simp
theorem sortedLaw (l : List Gz) (hF : FitL l) : PC Try.prog env0 5 [.sl 4 (l.map gzv)] [.bool true] := by
 have hA := awake_pc
 have hFw := few28_pc l 30 (by omega) (by omega) (by have := hF.1; unfold maxLen; omega) hF.2
 cases hb : fewZ l 30 with
 | false =>
   rw [hb] at hFw
   refine PC.of_va (T := tb0) eqs_ok tb_ok rfl mixed Try.func5 rfl rfl (Nat.le_of_ble_eq_true rfl) ?_; intro Γ C WK LP fin h0 hW hC hB hR hLP hfin
   (try (conv => whnf)); (repeat ((first | refine qT ?_ | refine qF ?_ | refine qO ?_ | (with_reducible intro z hz); (first | (replace hz := hz (by omega); subst hz) | subst hz) | (refine CallV.mk _ (hC _ _ _ (PCw.of hFw)) (fun js hjs => ?_); subst hjs) | (refine CallV.mk _ (hC _ _ _ (PCw.of hA)) (fun js hjs => ?_); subst hjs)); (try (conv => whnf))))
   exact hfin _ (ILes.refl _)
 | true =>
   rw [hb] at hFw
   have h30 := few30 (m := 30) (by omega) hF.2 hb
   have hI := h30.items (by omega)
   have hAc := h30.acts'
   have hdl := h30.deedsLen
   have hlen : (deeds l).length = sumI (actsR (allA l)) := by unfold deeds deedR; rw [deedL_len]; rfl
   have hst := deeds_strict l
   have hcp := h30.cp
   have hFi : ∀ e ∈ deeds l, PC Try.prog env0 14 [.int .i64 e.act, .int .i64 e.item, .sl 4 (l.map gzv)] [eiv e, .bool true] := fun e he => by
     have := h30.find e.act e.item
     rwa [h30.finds he] at this
   have hrl : (actsR (allA l)).length ≤ 1000000 := by
     have h2 := actsK_len (allA l) (allA l).length
     have h3 := allA_len l (fun g hg => by have := h30.acts g hg; omega)
     have h4 := h30.len
     rw [show actsK (allA l) (allA l).length = actsR (allA l) from rfl] at h2
     omega
   generalize deeds l = D at *
   generalize actsR (allA l) = row at *
   have hml : (D.map eiv).length = D.length := List.length_map _
   have hmr : (row.map acv).length = row.length := List.length_map _
   refine PC.of_va (T := tb0) eqs_ok tb_ok rfl mixed Try.func5 rfl rfl (Nat.le_of_ble_eq_true rfl) ?_; intro Γ C WK LP fin h0 hW hC hB hR hLP hfin
   (try (conv => whnf)); (repeat ((first | refine qT ?_ | refine qF ?_ | refine qO ?_ | (with_reducible intro z hz); (first | (replace hz := hz (by omega); subst hz) | subst hz) | (refine CallV.mk _ (hC _ _ _ (PCw.of hFw)) (fun js hjs => ?_); subst hjs) | (refine CallV.mk _ (hC _ _ _ (PCw.of hI)) (fun js hjs => ?_); subst hjs) | (refine CallV.mk _ (hC _ _ _ (PCw.of hAc)) (fun js hjs => ?_); subst hjs)); (try (conv => whnf))))
   refine hLP _ _ _ Nat (fun j => ⟨[(0, .imm (.sl 4 (l.map gzv))), (3, .imm (.sl 28 (D.map eiv))), (4, .imm (.int .i64 (sumI (row.take j) : Nat))), (17, .imm (.sl 7 (row.map acv))), (18, .imm (.int .i64 (row.length : Nat))), (19, .imm (.int .i64 (j : Nat)))], []⟩) (fun j => j ≤ row.length) (fun j => row.length - j) 0 (Nat.zero_le _) (qSL 0 rfl rfl (hE := by (repeat ((conv => whnf); first | exact trivial | refine And.intro (by first | exact WkOne.any | exact WkOne.eq (by with_reducible rfl) rfl | exact WkOne.eq (congrArg (fun z => PV.imm (IV.int IntKind.i64 z)) (by first | omega | (simp [hmr]; done) | (simp [hmr]; omega))) rfl | exact WkOne.eq (by first | (simp [hmr]; done) | fail) rfl | exact WkOne.eq rfl rfl | exact WkOne.le rfl (ILe.nil _)) ?_)))) ?_
   intro j hj
   have hho := Nat.lt_or_ge j row.length
   cases hho with
   | inl hlt =>
     obtain ⟨a, ha⟩ : ∃ a, row[j]? = some a := ⟨row[j], List.getElem?_eq_getElem hlt⟩
     have hsu := sumI_take ha
     have hsl : sumI (row.take (j + 1)) ≤ sumI row := by unfold sumI; exact sum_take _ _ _
     have hmi : (a.items.map itv).length = a.items.length := List.length_map _
     generalize hz : sumI (row.take j) = z at *
     (try (conv => whnf)); (repeat ((first | refine qT ?_ | refine qF ?_ | refine qO ?_ | (with_reducible intro z hz); (first | (replace hz := hz (by omega); subst hz) | subst hz)); (try (conv => whnf))))
     refine Idx.mk j (acv a) _ rfl (by simp [ha]) rfl ?_
     (try (conv => whnf)); (repeat ((first | refine qT ?_ | refine qF ?_ | refine qO ?_ | (with_reducible intro z hz); (first | (replace hz := hz (by omega); subst hz) | subst hz)); (try (conv => whnf))))
     exact ⟨j + 1, by omega, by dsimp only; omega, (qSL 0 rfl rfl)⟩
   | inr hge =>
     obtain rfl : j = row.length := by omega
     rw [List.take_length, ← hlen]
     (try (conv => whnf)); (repeat ((first | refine qT ?_ | refine qF ?_ | refine qO ?_ | (with_reducible intro z hz); (first | (replace hz := hz (by omega); subst hz) | subst hz)); (try (conv => whnf))))
     refine hLP _ _ _ Nat (fun k => ⟨[(0, .imm (.sl 4 (l.map gzv))), (3, .imm (.sl 28 (D.map eiv))), (4, .imm (.int .i64 (D.length : Nat))), (30, .imm (.int .i64 (D.length : Nat))), (31, .imm (.int .i64 (k : Nat)))], []⟩) (fun k => k ≤ D.length) (fun k => D.length - k) 0 (Nat.zero_le _) (qSL 0 rfl rfl (hE := by (repeat ((conv => whnf); first | exact trivial | refine And.intro (by first | exact WkOne.any | exact WkOne.eq (by with_reducible rfl) rfl | exact WkOne.eq (congrArg (fun z => PV.imm (IV.int IntKind.i64 z)) (by first | omega | (simp [hml]; done) | (simp [hml]; omega))) rfl | exact WkOne.eq (by first | (simp [hml]; done) | fail) rfl | exact WkOne.eq rfl rfl | exact WkOne.le rfl (ILe.nil _)) ?_)))) ?_
     intro k hk
     have hho := Nat.lt_or_ge k D.length
     cases hho with
     | inl hlt =>
       refine (?_ : ∀ Q : Exit → AS → Prop, vcS _ _ _ _ _ _ _ (loopQA _ _ _ _ _ _ Q)) _; intro Q
       obtain ⟨e, he⟩ : ∃ e, D[k]? = some e := ⟨D[k], List.getElem?_eq_getElem hlt⟩
       have hme := List.mem_of_getElem? he
       have hFe := hFi e hme
       have hSe := same28_pc e e (hcp e hme) (hcp e hme)
       rw [decide_eq_true rfl] at hSe
       rw [eiv_eq e] at hFe hSe
       cases k with
       | zero =>
         (try (conv => whnf)); (repeat ((first | refine qT ?_ | refine qF ?_ | refine qO ?_ | (with_reducible intro z hz); (first | (replace hz := hz (by omega); subst hz) | subst hz)); (try (conv => whnf))))
         refine Idx.mk 0 (eiv e) _ rfl (by simp [he]) rfl ?_
         (try (conv => whnf)); (repeat ((first | refine qT ?_ | refine qF ?_ | refine qO ?_ | (with_reducible intro z hz); (first | (replace hz := hz (by omega); subst hz) | subst hz)); (try (conv => whnf))))
         refine Idx.mk 0 (eiv e) _ rfl (by simp [he]) rfl ?_
         (try (conv => whnf)); (repeat ((first | refine qT ?_ | refine qF ?_ | refine qO ?_ | (with_reducible intro z hz); (first | (replace hz := hz (by omega); subst hz) | subst hz) | (refine CallV.mk _ (hC _ _ _ (PCw.of hFe)) (fun js hjs => ?_); subst hjs)); (try (conv => whnf))))
         refine Idx.mk 0 (eiv e) _ rfl (by simp [he]) rfl ?_
         (try (conv => whnf)); (repeat ((first | refine qT ?_ | refine qF ?_ | refine qO ?_ | (with_reducible intro z hz); (first | (replace hz := hz (by omega); subst hz) | subst hz) | (refine CallV.mk _ (hC _ _ _ (PCw.of hSe)) (fun js hjs => ?_); subst hjs)); (try (conv => whnf))))
         exact ⟨1, by omega, by dsimp only; omega, (qSL 0 rfl rfl)⟩
       | succ k =>
         obtain ⟨b, hb'⟩ : ∃ b, D[k]? = some b := ⟨D[k], List.getElem?_eq_getElem (by omega)⟩
         have hlt' := strict_at hst hb' he
         have hCm := compareE_pc b e
         generalize legE b e = z at *
         rw [eiv_eq b, eiv_eq e] at hCm
         (try (conv => whnf)); (repeat ((first | refine qT ?_ | refine qF ?_ | refine qO ?_ | (with_reducible intro z hz); (first | (replace hz := hz (by omega); subst hz) | subst hz)); (try (conv => whnf))))
         refine Idx.mk k (eiv b) _ (by omega) (by simp [hb']) rfl ?_
         (try (conv => whnf)); (repeat ((first | refine qT ?_ | refine qF ?_ | refine qO ?_ | (with_reducible intro z hz); (first | (replace hz := hz (by omega); subst hz) | subst hz)); (try (conv => whnf))))
         refine Idx.mk (k + 1) (eiv e) _ rfl (by simp [he]) rfl ?_
         (try (conv => whnf)); (repeat ((first | refine qT ?_ | refine qF ?_ | refine qO ?_ | (with_reducible intro z hz); (first | (replace hz := hz (by omega); subst hz) | subst hz) | (refine CallV.mk _ (hC _ _ _ (PCw.of hCm)) (fun js hjs => ?_); subst hjs)); (try (conv => whnf))))
         refine Idx.mk (k + 1) (eiv e) _ rfl (by simp [he]) rfl ?_
         (try (conv => whnf)); (repeat ((first | refine qT ?_ | refine qF ?_ | refine qO ?_ | (with_reducible intro z hz); (first | (replace hz := hz (by omega); subst hz) | subst hz)); (try (conv => whnf))))
         refine Idx.mk (k + 1) (eiv e) _ rfl (by simp [he]) rfl ?_
         (try (conv => whnf)); (repeat ((first | refine qT ?_ | refine qF ?_ | refine qO ?_ | (with_reducible intro z hz); (first | (replace hz := hz (by omega); subst hz) | subst hz) | (refine CallV.mk _ (hC _ _ _ (PCw.of hFe)) (fun js hjs => ?_); subst hjs)); (try (conv => whnf))))
         refine Idx.mk (k + 1) (eiv e) _ rfl (by simp [he]) rfl ?_
         (try (conv => whnf)); (repeat ((first | refine qT ?_ | refine qF ?_ | refine qO ?_ | (with_reducible intro z hz); (first | (replace hz := hz (by omega); subst hz) | subst hz) | (refine CallV.mk _ (hC _ _ _ (PCw.of hSe)) (fun js hjs => ?_); subst hjs)); (try (conv => whnf))))
         exact ⟨k + 2, by omega, by dsimp only; omega, (qSL 0 rfl rfl)⟩
     | inr hge =>
       obtain rfl : k = D.length := by omega
       (try (conv => whnf)); (repeat ((first | refine qT ?_ | refine qF ?_ | refine qO ?_ | (with_reducible intro z hz); (first | (replace hz := hz (by omega); subst hz) | subst hz) | (refine CallV.mk _ (hC _ _ _ (PCw.of hA)) (fun js hjs => ?_); subst hjs)); (try (conv => whnf))))
       exact hfin _ (ILes.refl _)
end Go.Proofs.Ytglkpmhamekpmaa.Po
