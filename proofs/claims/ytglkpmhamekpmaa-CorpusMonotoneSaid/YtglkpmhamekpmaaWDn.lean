/-
  Corpus: the law of one gazette more.
-/
import Derived.Test.YtglkpmhamekpmaaGh
namespace Go.Proofs.Ytglkpmhamekpmaa.Po
open Go Go.Pv Go.RowKit
set_option linter.unusedSimpArgs false
open Lab Lcs Go.Proofs.Ytglkpmhamekpmaa Go.Proofs.Ytglkpmhamekpmaa.Pu
set_option maxRecDepth 10000
set_option maxHeartbeats 32000000
theorem Few30.mono {l : List Gz} {g : Gz} {m : Nat} (h : Few30 (l ++ [g]) m) (h0 : Few30 l m) {d : Ei} (hd : d ∈ Po.deeds l) : ∃ x, findL (Po.deeds (l ++ [g])) d.act d.item = some x ∧ x.day = d.day ∧ (nmG d.act d.item g = false → x = d) := by
 have h1 := h0.finds hd
 rw [← find_eq l (good_reg h0.fit)] at h1
 obtain ⟨x, hx, h2, h3⟩ := mono_find (g := g) h1
 rw [find_eq _ (good_reg h.fit)] at hx
 exact ⟨x, hx, h2, h3⟩
theorem monoLaw (l : List Gz) (hF : FitL l) (g : Gz) (hG : FitGz g) : PC Try.prog env0 6 [.sl 4 (l.map gzv), gzv g] [.bool true] := by
 have hA := awake_pc
 have hl1 := hF.1
 have hml : (l.map gzv).length = l.length := List.length_map _
 have hFw := few28_pc (l ++ [g]) 30 (by omega) (by omega) (by rw [List.length_append]; unfold maxLen; simp only [List.length_cons, List.length_nil]; omega) (fun x hx => by
   rcases List.mem_append.1 hx with hx | hx
   · exact hF.2 x hx
   · rw [List.mem_singleton.1 hx]; exact hG)
 cases hb : fewZ (l ++ [g]) 30 with
 | false =>
   rw [hb] at hFw
   rw [show gzv g = .agg [.int .i64 g.num, .int .i64 g.day, .str g.prior, .sl 7 (g.acts.map acv)] from rfl]
   refine PC.of_va (T := (tbf fun r => match r with | 2 => [1] | _ => [])) eqs_ok tb_ok rfl mixed Try.func6 rfl rfl (Nat.le_of_ble_eq_true rfl) ?_; intro Γ C WK LP fin h0 hW hC hB hR hLP hfin
   (try (conv => whnf)); (repeat ((first | refine qT ?_ | refine qF ?_ | refine qO ?_ | (with_reducible intro z hz); (first | (replace hz := hz (by omega); subst hz) | subst hz)); (try (conv => whnf))))
   refine Imms.mk ((l ++ [g]).map gzv) (by simp [gzv]) ?_
   (try (conv => whnf)); (repeat ((first | refine qT ?_ | refine qF ?_ | refine qO ?_ | (with_reducible intro z hz); (first | (replace hz := hz (by omega); subst hz) | subst hz) | (refine CallV.mk _ (hC _ _ _ (PCw.of hFw)) (fun js hjs => ?_); subst hjs) | (refine CallV.mk _ (hC _ _ _ (PCw.of hA)) (fun js hjs => ?_); subst hjs)); (try (conv => whnf))))
   exact hfin _ (ILes.refl _)
 | true =>
   rw [hb] at hFw
   have h30 := few30 (m := 30) (by omega) (fun x hx => by
     rcases List.mem_append.1 hx with hx | hx
     · exact hF.2 x hx
     · rw [List.mem_singleton.1 hx]; exact hG) hb
   have h0 : Few30 l 30 := by have := h30.take l.length; rwa [List.take_left] at this
   have hI := h0.items (by omega)
   have hdl := h0.deedsLen
   have hcp := h0.cp
   have hmo := fun d hd => h30.mono h0 (d := d) hd
   have hfd := fun n i => h30.find n i
   have hfc := fun n i e => h30.findCp (n := n) (i := i) (e := e)
   have hmd : ((deeds l).map eiv).length = (deeds l).length := List.length_map _
   have hga := h30.acts g (by simp)
   have hgi := h30.fit g (by simp)
   have hmg : (g.acts.map acv).length = g.acts.length := List.length_map _
   generalize deeds l = D at *
   generalize hMM : findL (Po.deeds (l ++ [g])) = M at *
   rw [show gzv g = .agg [.int .i64 g.num, .int .i64 g.day, .str g.prior, .sl 7 (g.acts.map acv)] from rfl]
   refine PC.of_va (T := (tbf fun r => match r with | 2 => [1] | _ => [])) eqs_ok tb_ok rfl mixed Try.func6 rfl rfl (Nat.le_of_ble_eq_true rfl) ?_; intro Γ C WK LP fin h0 hW hC hB hR hLP hfin
   (try (conv => whnf)); (repeat ((first | refine qT ?_ | refine qF ?_ | refine qO ?_ | (with_reducible intro z hz); (first | (replace hz := hz (by omega); subst hz) | subst hz)); (try (conv => whnf))))
   refine Imms.mk ((l ++ [g]).map gzv) (by simp [gzv]) ?_
   (try (conv => whnf)); (repeat ((first | refine qT ?_ | refine qF ?_ | refine qO ?_ | (with_reducible intro z hz); (first | (replace hz := hz (by omega); subst hz) | subst hz) | (refine CallV.mk _ (hC _ _ _ (PCw.of hFw)) (fun js hjs => ?_); subst hjs) | (refine CallV.mk _ (hC _ _ _ (PCw.of hI)) (fun js hjs => ?_); subst hjs)); (try (conv => whnf))))
   refine hLP _ _ _ Nat (fun k => ⟨[(0, .imm (.sl 4 (l.map gzv))), (3, .ptr 0 1 0), (5, .imm (.sl 4 ((l ++ [g]).map gzv))), (26, .imm (.sl 28 (D.map eiv))), (27, .imm (.int .i64 (D.length : Nat))), (28, .imm (.int .i64 (k : Nat)))], [.box 1 [.imm (.int .i64 g.num), .imm (.int .i64 g.day), .imm (.str g.prior), .imm (.sl 7 (g.acts.map acv))]]⟩) (fun k => k ≤ D.length) (fun k => D.length - k) 0 (Nat.zero_le _) (qSL 1 rfl rfl (hE := by (repeat ((conv => whnf); first | exact trivial | refine And.intro (by first | exact WkOne.any | exact WkOne.eq (by with_reducible rfl) rfl | exact WkOne.eq (congrArg (fun z => PV.imm (IV.int IntKind.i64 z)) (by first | omega | (simp [hmd]; done) | (simp [hmd]; omega))) rfl | exact WkOne.eq (by first | (simp [hmd]; done) | fail) rfl | exact WkOne.eq rfl rfl | exact WkOne.le rfl (ILe.nil _)) ?_)))) ?_
   intro k hk
   have hho := Nat.lt_or_ge k D.length
   cases hho with
   | inl hlt =>
     refine (?_ : ∀ Q : Exit → AS → Prop, vcS _ _ _ _ _ _ _ (loopQA _ _ _ _ _ _ Q)) _; intro Q
     obtain ⟨d, hd⟩ : ∃ d, D[k]? = some d := ⟨D[k], List.getElem?_eq_getElem hlt⟩
     have hmd' := List.mem_of_getElem? hd
     obtain ⟨x, hx, hxd, hxn⟩ := hmo d hmd'
     have hFx := hfd d.act d.item
     rw [hx] at hFx
     have hSx := same28_pc x d (hfc _ _ _ hx) (hcp d hmd')
     rw [show oeiv (some x) = eiv x from rfl, eiv_eq x] at hFx
     rw [eiv_eq x, eiv_eq d] at hSx
     (try (conv => whnf)); (repeat ((first | refine qT ?_ | refine qF ?_ | refine qO ?_ | (with_reducible intro z hz); (first | (replace hz := hz (by omega); subst hz) | subst hz)); (try (conv => whnf))))
     refine Idx.mk k (eiv d) _ rfl (by simp [hd]) rfl ?_
     (try (conv => whnf)); (repeat ((first | refine qT ?_ | refine qF ?_ | refine qO ?_ | (with_reducible intro z hz); (first | (replace hz := hz (by omega); subst hz) | subst hz) | (refine CallV.mk _ (hC _ _ _ (PCw.of hFx)) (fun js hjs => ?_); subst hjs)); (try (conv => whnf))))
     refine hLP _ _ _ Nat (fun j => ⟨[(0, .imm (.sl 4 (l.map gzv))), (3, .ptr 0 1 0), (5, .imm (.sl 4 ((l ++ [g]).map gzv))), (7, .ptr 1 1 0), (8, .ptr 3 1 0), (9, .imm (.bool true)), (10, .imm (.bool ((g.acts.take j).any (nmA d.act d.item)))), (26, .imm (.sl 28 (D.map eiv))), (27, .imm (.int .i64 (D.length : Nat))), (28, .imm (.int .i64 (k : Nat))), (42, .imm (.sl 7 (g.acts.map acv))), (43, .imm (.int .i64 (g.acts.length : Nat))), (44, .imm (.int .i64 (j : Nat)))], [.box 1 [.imm (.int .i64 g.num), .imm (.int .i64 g.day), .imm (.str g.prior), .imm (.sl 7 (g.acts.map acv))], .box 1 (eiC d), .dead 0, .box 1 (eiC x)]⟩) (fun j => j ≤ g.acts.length) (fun j => g.acts.length - j) 0 (Nat.zero_le _) (qSL 4 rfl rfl (hE := by (repeat ((conv => whnf); first | exact trivial | refine And.intro (by first | exact WkOne.any | exact WkOne.eq (by with_reducible rfl) rfl | exact WkOne.eq (congrArg (fun z => PV.imm (IV.int IntKind.i64 z)) (by first | omega | (simp [hmg]; done) | (simp [hmg]; omega))) rfl | exact WkOne.eq (by first | (simp [hmg]; done) | fail) rfl | exact WkOne.eq rfl rfl | exact WkOne.le rfl (ILe.nil _)) ?_)))) ?_
     intro j hj
     have hho := Nat.lt_or_ge j g.acts.length
     cases hho with
     | inl hjl =>
       refine (?_ : ∀ Q : Exit → AS → Prop, vcS _ _ _ _ _ _ _ (loopQA _ _ _ _ _ _ Q)) _; intro Q
       obtain ⟨a, ha⟩ : ∃ a, g.acts[j]? = some a := ⟨g.acts[j], List.getElem?_eq_getElem hjl⟩
       have hai := (hgi a (List.mem_of_getElem? ha)).1
       have hmi : (a.items.map itv).length = a.items.length := List.length_map _
       have hst : (g.acts.take (j + 1)).any (nmA d.act d.item) = ((g.acts.take j).any (nmA d.act d.item) || a.items.any (nmI d.act d.item)) := by
         rw [take_at ha, List.any_append]
         simp [nmA]
       generalize hN : (g.acts.take j).any (nmA d.act d.item) = b0 at *
       (try (conv => whnf)); (repeat ((first | refine qT ?_ | refine qF ?_ | refine qO ?_ | (with_reducible intro z hz); (first | (replace hz := hz (by omega); subst hz) | subst hz)); (try (conv => whnf))))
       refine Idx.mk j (acv a) _ rfl (by simp [ha]) rfl ?_
       (try (conv => whnf)); (repeat ((first | refine qT ?_ | refine qF ?_ | refine qO ?_ | (with_reducible intro z hz); (first | (replace hz := hz (by omega); subst hz) | subst hz)); (try (conv => whnf))))
       refine hLP _ _ _ Nat (fun t => ⟨[(0, .imm (.sl 4 (l.map gzv))), (3, .ptr 0 1 0), (5, .imm (.sl 4 ((l ++ [g]).map gzv))), (7, .ptr 1 1 0), (8, .ptr 3 1 0), (9, .imm (.bool true)), (10, .imm (.bool (b0 || (a.items.take t).any (nmI d.act d.item)))), (26, .imm (.sl 28 (D.map eiv))), (27, .imm (.int .i64 (D.length : Nat))), (28, .imm (.int .i64 (k : Nat))), (42, .imm (.sl 7 (g.acts.map acv))), (43, .imm (.int .i64 (g.acts.length : Nat))), (44, .imm (.int .i64 (j : Nat))), (49, .imm (.sl 25 (a.items.map itv))), (50, .imm (.int .i64 (a.items.length : Nat))), (51, .imm (.int .i64 (t : Nat)))], [.box 1 [.imm (.int .i64 g.num), .imm (.int .i64 g.day), .imm (.str g.prior), .imm (.sl 7 (g.acts.map acv))], .box 1 (eiC d), .dead 0, .box 1 (eiC x)]⟩) (fun t => t ≤ a.items.length) (fun t => a.items.length - t) 0 (Nat.zero_le _) ((qSL 4 rfl rfl (hE := by (repeat ((conv => whnf); first | exact trivial | refine And.intro (by first | exact WkOne.any | exact WkOne.eq (by with_reducible rfl) rfl | exact WkOne.eq (congrArg (fun z => PV.imm (IV.int IntKind.i64 z)) (by first | omega | (simp [hmi, Bool.or_false]; done) | (simp [hmi, Bool.or_false]; omega))) rfl | exact WkOne.eq (by first | (simp [hmi, Bool.or_false]; done) | fail) rfl | exact WkOne.eq rfl rfl | exact WkOne.le rfl (ILe.nil _)) ?_))))) ?_
       intro t ht
       have hht := Nat.lt_or_ge t a.items.length
       cases hht with
       | inl htl =>
         refine (?_ : ∀ Q : Exit → AS → Prop, vcS _ _ _ _ _ _ _ (loopQA _ _ _ _ _ _ Q)) _; intro Q
         obtain ⟨y, hy⟩ : ∃ y, a.items[t]? = some y := ⟨a.items[t], List.getElem?_eq_getElem htl⟩
         have hsy : (b0 || (a.items.take (t + 1)).any (nmI d.act d.item)) = ((b0 || (a.items.take t).any (nmI d.act d.item)) || nmI d.act d.item y) := by
           rw [take_at hy, List.any_append, Bool.or_assoc]
           simp
         generalize (b0 || (a.items.take t).any (nmI d.act d.item)) = b at *
         cases b with
         | true =>
           rw [Bool.true_or] at hsy
           (try (conv => whnf)); (repeat ((first | refine qT ?_ | refine qF ?_ | refine qO ?_ | (with_reducible intro z hz); (first | (replace hz := hz (by omega); subst hz) | subst hz)); (try (conv => whnf))))
           refine Idx.mk t (itv y) _ rfl (by simp [hy]) (by rw [itv_eq y]) ?_
           (try (conv => whnf)); (repeat ((first | refine qT ?_ | refine qF ?_ | refine qO ?_ | (with_reducible intro z hz); (first | (replace hz := hz (by omega); subst hz) | subst hz)); (try (conv => whnf))))
           exact ⟨t + 1, by omega, by dsimp only; omega, by
             dsimp only []
             rw [hsy]
             exact (qSL 4 rfl rfl)⟩
         | false =>
           rw [Bool.false_or] at hsy
           rw [show nmI d.act d.item y = (decide (y.kind = 11) && decide (y.a = d.act) && decide (y.i = d.item)) from rfl] at hsy
           by_cases h11 : y.kind = 11
           · by_cases hya : y.a = d.act
             · rw [decide_eq_true h11, decide_eq_true hya, Bool.true_and, Bool.true_and] at hsy
               by_cases hyi : y.i = d.item
               · rw [decide_eq_true hyi] at hsy
                 (try (conv => whnf)); (repeat ((first | refine qT ?_ | refine qF ?_ | refine qO ?_ | (with_reducible intro z hz); (first | (replace hz := hz (by omega); subst hz) | subst hz)); (try (conv => whnf))))
                 refine Idx.mk t (itv y) _ rfl (by simp [hy]) (by rw [itv_eq y]) ?_
                 (try (conv => whnf)); (repeat ((first | refine qT ?_ | refine qF ?_ | refine qO ?_ | (with_reducible intro z hz); (first | (replace hz := hz (by omega); subst hz) | subst hz)); (try (conv => whnf))))
                 exact ⟨t + 1, by omega, by dsimp only; omega, by
                   dsimp only []
                   rw [hsy]
                   exact (qSL 4 rfl rfl)⟩
               · rw [decide_eq_false hyi] at hsy
                 (try (conv => whnf)); (repeat ((first | refine qT ?_ | refine qF ?_ | refine qO ?_ | (with_reducible intro z hz); (first | (replace hz := hz (by omega); subst hz) | subst hz)); (try (conv => whnf))))
                 refine Idx.mk t (itv y) _ rfl (by simp [hy]) (by rw [itv_eq y]) ?_
                 (try (conv => whnf)); (repeat ((first | refine qT ?_ | refine qF ?_ | refine qO ?_ | (with_reducible intro z hz); (first | (replace hz := hz (by omega); subst hz) | subst hz)); (try (conv => whnf))))
                 exact ⟨t + 1, by omega, by dsimp only; omega, by
                   dsimp only []
                   rw [hsy]
                   exact (qSL 4 rfl rfl)⟩
             · rw [decide_eq_false hya, Bool.and_false, Bool.false_and] at hsy
               (try (conv => whnf)); (repeat ((first | refine qT ?_ | refine qF ?_ | refine qO ?_ | (with_reducible intro z hz); (first | (replace hz := hz (by omega); subst hz) | subst hz)); (try (conv => whnf))))
               refine Idx.mk t (itv y) _ rfl (by simp [hy]) (by rw [itv_eq y]) ?_
               (try (conv => whnf)); (repeat ((first | refine qT ?_ | refine qF ?_ | refine qO ?_ | (with_reducible intro z hz); (first | (replace hz := hz (by omega); subst hz) | subst hz)); (try (conv => whnf))))
               exact ⟨t + 1, by omega, by dsimp only; omega, by
                 dsimp only []
                 rw [hsy]
                 exact (qSL 4 rfl rfl)⟩
           · rw [decide_eq_false h11, Bool.false_and, Bool.false_and] at hsy
             (try (conv => whnf)); (repeat ((first | refine qT ?_ | refine qF ?_ | refine qO ?_ | (with_reducible intro z hz); (first | (replace hz := hz (by omega); subst hz) | subst hz)); (try (conv => whnf))))
             refine Idx.mk t (itv y) _ rfl (by simp [hy]) (by rw [itv_eq y]) ?_
             (try (conv => whnf)); (repeat ((first | refine qT ?_ | refine qF ?_ | refine qO ?_ | (with_reducible intro z hz); (first | (replace hz := hz (by omega); subst hz) | subst hz)); (try (conv => whnf))))
             exact ⟨t + 1, by omega, by dsimp only; omega, by
               dsimp only []
               rw [hsy]
               exact (qSL 4 rfl rfl)⟩
       | inr htg =>
         obtain rfl : t = a.items.length := by omega
         rw [List.take_length, ← hst]
         (try (conv => whnf)); (repeat ((first | refine qT ?_ | refine qF ?_ | refine qO ?_ | (with_reducible intro z hz); (first | (replace hz := hz (by omega); subst hz) | subst hz)); (try (conv => whnf))))
         exact ⟨j + 1, by omega, by dsimp only; omega, (qSL 4 rfl rfl)⟩
     | inr hjg =>
       obtain rfl : j = g.acts.length := by omega
       rw [List.take_length]
       rw [show nmG d.act d.item g = g.acts.any (nmA d.act d.item) from rfl] at hxn
       generalize g.acts.any (nmA d.act d.item) = b at *
       cases b with
       | true =>
         (try (conv => whnf)); (repeat ((first | refine qT ?_ | refine qF ?_ | refine qO ?_ | (with_reducible intro z hz); (first | (replace hz := hz (by omega); subst hz) | subst hz)); (try (conv => whnf))))
         exact ⟨k + 1, by omega, by dsimp only; omega, (qSL 1 rfl rfl)⟩
       | false =>
         obtain rfl := hxn rfl
         rw [decide_eq_true rfl] at hSx
         (try (conv => whnf)); (repeat ((first | refine qT ?_ | refine qF ?_ | refine qO ?_ | (with_reducible intro z hz); (first | (replace hz := hz (by omega); subst hz) | subst hz) | (refine CallV.mk _ (hC _ _ _ (PCw.of hSx)) (fun js hjs => ?_); subst hjs)); (try (conv => whnf))))
         exact ⟨k + 1, by omega, by dsimp only; omega, (qSL 1 rfl rfl)⟩
   | inr hge =>
     obtain rfl : k = D.length := by omega
     (try (conv => whnf)); (repeat ((first | refine qT ?_ | refine qF ?_ | refine qO ?_ | (with_reducible intro z hz); (first | (replace hz := hz (by omega); subst hz) | subst hz) | (refine CallV.mk _ (hC _ _ _ (PCw.of hA)) (fun js hjs => ?_); subst hjs)); (try (conv => whnf))))
     exact hfin _ (ILes.refl _)
end Go.Proofs.Ytglkpmhamekpmaa.Po
