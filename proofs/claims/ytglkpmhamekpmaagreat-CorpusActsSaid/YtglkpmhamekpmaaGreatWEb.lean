/-
  Corpus: the law of acts.
-/
import Derived.Test.YtglkpmhamekpmaaGreatWEa
namespace Go.Proofs.YtglkpmhamekpmaaGreat.Po
open Go Go.Pv Go.RowKit
set_option linter.unusedSimpArgs false
open Lab Lcs Go.Proofs.YtglkpmhamekpmaaGreat Go.Proofs.YtglkpmhamekpmaaGreat.Pu
set_option maxRecDepth 10000
set_option maxHeartbeats 32000000
theorem Few30.dups {l : List Gz} {m : Nat} (h : Few30 l m) : PC Tryz.prog env0 15 [.sl 4 (l.map gzv)] [.sl 1 ((twR (allA l)).map kI)] := by
 have hl := h.len
 obtain ⟨hst, hnd, hme⟩ := tw_reps (allA l) (allA l).length (Nat.le_refl _)
 have hrg : rgK (allA l) (allA l).length = regO l := by unfold rgK; rw [List.take_length, ← regO_all]
 rw [hrg] at hnd hme
 have h1 := ((List.perm_ext_iff_of_nodup hnd (hst.imp fun h => by omega)).2 fun z => (hme z).symm).length_eq
 have h2 := twK_len (allA l) (allA l).length
 have h3 := allA_len l (fun g hg => by have := h.acts g hg; omega)
 rw [List.length_map] at h1
 exact dups_of l (by omega) h.small (by omega)
theorem actsLaw (l : List Gz) (hF : FitL l) : PC Tryz.prog env0 3 [.sl 4 (l.map gzv)] [.bool true] := by
 have hA := awake_pc
 have hFw := few28_pc l 30 (by omega) (by omega) (by have := hF.1; unfold maxLen; omega) hF.2
 cases hb : fewZ l 30 with
 | false =>
   rw [hb] at hFw
   refine PC.of_va (T := (tbd fun _ => false)) eqs_ok tbd_ok rfl mixed Tryz.func3 rfl rfl (Nat.le_of_ble_eq_true rfl) ?_; intro Γ C WK LP fin h0 hW hC hB hR hLP hfin
   (try (conv => whnf)); (repeat ((first | refine qT ?_ | refine qF ?_ | refine qO ?_ | (with_reducible intro z hz); (first | (replace hz := hz (by omega); subst hz) | subst hz) | (refine CallV.mk _ (hC _ _ _ (PCw.of hFw)) (fun js hjs => ?_); subst hjs) | (refine CallV.mk _ (hC _ _ _ (PCw.of hA)) (fun js hjs => ?_); subst hjs)); (try (conv => whnf))))
   exact hfin _ (ILes.refl _)
 | true =>
   rw [hb] at hFw
   have h30 := few30 (m := 30) (by omega) hF.2 hb
   have hl8 := h30.len
   have hAc := h30.acts'
   have hAr := acts_pc l (by omega) (fun g hg => by have := h30.acts g hg; omega)
   have hDu := h30.dups
   have hTw := twice_pc l (by omega) (fun g hg => by have := h30.acts g hg; omega)
   have hal := allA_len l (fun g hg => by have := h30.acts g hg; omega)
   have hrl := actsK_len (allA l) (allA l).length
   have htl := twK_len (allA l) (allA l).length
   rw [show actsK (allA l) (allA l).length = actsR (allA l) from rfl] at hrl
   rw [show twK (allA l) (allA l).length = twR (allA l) from rfl] at htl
   have hfit : ∀ a ∈ actsR (allA l), FitA a := fun a ha => by
     obtain ⟨g, hg, ha⟩ := actsR_mem ha
     exact h30.fit g hg a ha
   have hac : ∀ a ∈ actsR (allA l), a.title.size ≤ 100 ∧ a.se.size ≤ 60 := fun a ha => by
     obtain ⟨g, hg, ha⟩ := actsR_mem ha
     have := h30.all g hg a ha
     exact ⟨this.1, this.2.1⟩
   generalize actsR (allA l) = R at *
   generalize twR (allA l) = T at *
   have hmr : (R.map acv).length = R.length := List.length_map _
   have hmt : (T.map kI).length = T.length := List.length_map _
   refine PC.of_va (T := (tbd fun _ => false)) eqs_ok tbd_ok rfl mixed Tryz.func3 rfl rfl (Nat.le_of_ble_eq_true rfl) ?_; intro Γ C WK LP fin h0 hW hC hB hR hLP hfin
   (try (conv => whnf)); (repeat ((first | refine qT ?_ | refine qF ?_ | refine qO ?_ | (with_reducible intro z hz); (first | (replace hz := hz (by omega); subst hz) | subst hz) | (refine CallV.mk _ (hC _ _ _ (PCw.of hFw)) (fun js hjs => ?_); subst hjs) | (refine CallV.mk _ (hC _ _ _ (PCw.of hAc)) (fun js hjs => ?_); subst hjs) | (refine CallV.mk _ (hC _ _ _ (PCw.of hAr)) (fun js hjs => ?_); subst hjs)); (try (conv => whnf))))
   refine hLP _ _ _ Nat (fun k => ⟨[(0, .imm (.sl 4 (l.map gzv))), (3, .imm (.sl 7 (R.map acv))), (4, .imm (.sl 7 (R.map acv))), (24, .imm (.int .i64 (R.length : Nat))), (25, .imm (.int .i64 (k : Nat)))], []⟩) (fun k => k ≤ R.length) (fun k => R.length - k) 0 (Nat.zero_le _) (qSL 0 rfl rfl (hE := by (repeat ((conv => whnf); first | exact trivial | refine And.intro (by first | exact WkOne.any | exact WkOne.eq (by with_reducible rfl) rfl | exact WkOne.eq (congrArg (fun z => PV.imm (IV.int IntKind.i64 z)) (by first | omega | (simp [hmr]; done) | (simp [hmr]; omega))) rfl | exact WkOne.eq (by first | (simp [hmr]; done) | fail) rfl | exact WkOne.eq rfl rfl | exact WkOne.le rfl (ILe.nil _)) ?_)))) ?_
   intro k hk
   have hho := Nat.lt_or_ge k R.length
   cases hho with
   | inl hlt =>
     refine (?_ : ∀ Q : Exit → AS → Prop, vcS _ _ _ _ _ _ _ (loopQA _ _ _ _ _ _ Q)) _; intro Q
     obtain ⟨a, ha⟩ : ∃ a, R[k]? = some a := ⟨R[k], List.getElem?_eq_getElem hlt⟩
     have hma := List.mem_of_getElem? ha
     obtain ⟨hfa, hfc⟩ := hfit a hma
     obtain ⟨hs1, hs2⟩ := hac a hma
     have hmi : (a.items.map itv).length = a.items.length := List.length_map _
     have heq : eqC [.int .i64 a.sk, .int .i64 a.sd, .str a.se] [.int .i64 a.sk, .int .i64 a.sd, .str a.se] = true := by rw [start_eqC]; simp
     (try (conv => whnf)); (repeat ((first | refine qT ?_ | refine qF ?_ | refine qO ?_ | (with_reducible intro z hz); (first | (replace hz := hz (by omega); subst hz) | subst hz)); (try (conv => whnf))))
     (repeat (refine Idx.mk k (acv a) _ rfl (by simp [ha]) rfl ?_; (try (conv => whnf)); (repeat ((first | refine qT ?_ | refine qF ?_ | refine qO ?_ | (with_reducible intro z hz); (first | (replace hz := hz (by omega); subst hz) | subst hz)); (try (conv => whnf))))))
     refine hLP _ _ _ Nat (fun j => ⟨[(0, .imm (.sl 4 (l.map gzv))), (3, .imm (.sl 7 (R.map acv))), (4, .imm (.sl 7 (R.map acv))), (5, .imm (.int .i64 (k : Nat))), (24, .imm (.int .i64 (R.length : Nat))), (25, .imm (.int .i64 (k : Nat))), (98, .imm (.int .i64 (a.items.length : Nat))), (99, .imm (.int .i64 (j : Nat)))], []⟩) (fun j => j ≤ a.items.length) (fun j => a.items.length - j) 0 (Nat.zero_le _) (qSL 0 rfl rfl (hE := by (repeat ((conv => whnf); first | exact trivial | refine And.intro (by first | exact WkOne.any | exact WkOne.eq (by with_reducible rfl) rfl | exact WkOne.eq (congrArg (fun z => PV.imm (IV.int IntKind.i64 z)) (by first | omega | (simp [hmi]; done) | (simp [hmi]; omega))) rfl | exact WkOne.eq (by first | (simp [hmi]; done) | fail) rfl | exact WkOne.eq rfl rfl | exact WkOne.le rfl (ILe.nil _)) ?_)))) ?_
     intro j hj
     have hhj := Nat.lt_or_ge j a.items.length
     cases hhj with
     | inl hjl =>
       refine (?_ : ∀ Q : Exit → AS → Prop, vcS _ _ _ _ _ _ _ (loopQA _ _ _ _ _ _ Q)) _; intro Q
       obtain ⟨y, hy⟩ : ∃ y, a.items[j]? = some y := ⟨a.items[j], List.getElem?_eq_getElem hjl⟩
       have hcy := hfc y (List.mem_of_getElem? hy)
       have hS := same17_pc y hcy y hcy
       rw [decide_eq_true rfl, itv_eq y] at hS
       (try (conv => whnf)); (repeat ((first | refine qT ?_ | refine qF ?_ | refine qO ?_ | (with_reducible intro z hz); (first | (replace hz := hz (by omega); subst hz) | subst hz)); (try (conv => whnf))))
       refine Idx.mk k (acv a) _ rfl (by simp [ha]) rfl ?_
       (try (conv => whnf)); (repeat ((first | refine qT ?_ | refine qF ?_ | refine qO ?_ | (with_reducible intro z hz); (first | (replace hz := hz (by omega); subst hz) | subst hz)); (try (conv => whnf))))
       refine Idx.mk j (itv y) _ rfl (by simp [hy]) (by rw [itv_eq y]) ?_
       (try (conv => whnf)); (repeat ((first | refine qT ?_ | refine qF ?_ | refine qO ?_ | (with_reducible intro z hz); (first | (replace hz := hz (by omega); subst hz) | subst hz)); (try (conv => whnf))))
       refine Idx.mk k (acv a) _ rfl (by simp [ha]) rfl ?_
       (try (conv => whnf)); (repeat ((first | refine qT ?_ | refine qF ?_ | refine qO ?_ | (with_reducible intro z hz); (first | (replace hz := hz (by omega); subst hz) | subst hz)); (try (conv => whnf))))
       refine Idx.mk j (itv y) _ rfl (by simp [hy]) (by rw [itv_eq y]) ?_
       (try (conv => whnf)); (repeat ((first | refine qT ?_ | refine qF ?_ | refine qO ?_ | (with_reducible intro z hz); (first | (replace hz := hz (by omega); subst hz) | subst hz) | (refine CallV.mk _ (hC _ _ _ (PCw.of hS)) (fun js hjs => ?_); subst hjs)); (try (conv => whnf))))
       exact ⟨j + 1, by omega, by dsimp only; omega, (qSL 0 rfl rfl)⟩
     | inr hjg =>
       obtain rfl : j = a.items.length := by omega
       (try (conv => whnf)); (repeat ((first | refine qT ?_ | refine qF ?_ | refine qO ?_ | (with_reducible intro z hz); (first | (replace hz := hz (by omega); subst hz) | subst hz)); (try (conv => whnf))))
       exact ⟨k + 1, by omega, by dsimp only; omega, (qSL 0 rfl rfl)⟩
   | inr hge =>
     obtain rfl : k = R.length := by omega
     (try (conv => whnf)); (repeat ((first | refine qT ?_ | refine qF ?_ | refine qO ?_ | (with_reducible intro z hz); (first | (replace hz := hz (by omega); subst hz) | subst hz) | (refine CallV.mk _ (hC _ _ _ (PCw.of hDu)) (fun js hjs => ?_); subst hjs) | (refine CallV.mk _ (hC _ _ _ (PCw.of hTw)) (fun js hjs => ?_); subst hjs)); (try (conv => whnf))))
     refine hLP _ _ _ Nat (fun j => ⟨[(0, .imm (.sl 4 (l.map gzv))), (7, .imm (.sl 1 (T.map kI))), (8, .imm (.sl 1 (T.map kI))), (132, .imm (.int .i64 (T.length : Nat))), (133, .imm (.int .i64 (j : Nat)))], []⟩) (fun j => j ≤ T.length) (fun j => T.length - j) 0 (Nat.zero_le _) (qSL 0 rfl rfl (hE := by (repeat ((conv => whnf); first | exact trivial | refine And.intro (by first | exact WkOne.any | exact WkOne.eq (by with_reducible rfl) rfl | exact WkOne.eq (congrArg (fun z => PV.imm (IV.int IntKind.i64 z)) (by first | omega | (simp [hmt]; done) | (simp [hmt]; omega))) rfl | exact WkOne.eq (by first | (simp [hmt]; done) | fail) rfl | exact WkOne.eq rfl rfl | exact WkOne.le rfl (ILe.nil _)) ?_)))) ?_
     intro j hj
     have hhj := Nat.lt_or_ge j T.length
     cases hhj with
     | inl hjl =>
       obtain ⟨z, hz⟩ : ∃ z, T[j]? = some z := ⟨T[j], List.getElem?_eq_getElem hjl⟩
       (try (conv => whnf)); (repeat ((first | refine qT ?_ | refine qF ?_ | refine qO ?_ | (with_reducible intro z hz); (first | (replace hz := hz (by omega); subst hz) | subst hz)); (try (conv => whnf))))
       (repeat (refine Idx.mk j (kI z) _ rfl (by simp [hz]) rfl ?_; (try (conv => whnf)); (repeat ((first | refine qT ?_ | refine qF ?_ | refine qO ?_ | (with_reducible intro z hz); (first | (replace hz := hz (by omega); subst hz) | subst hz)); (try (conv => whnf))))))
       exact ⟨j + 1, by omega, by dsimp only; omega, (qSL 0 rfl rfl)⟩
     | inr hjg =>
       obtain rfl : j = T.length := by omega
       (try (conv => whnf)); (repeat ((first | refine qT ?_ | refine qF ?_ | refine qO ?_ | (with_reducible intro z hz); (first | (replace hz := hz (by omega); subst hz) | subst hz) | (refine CallV.mk _ (hC _ _ _ (PCw.of hA)) (fun js hjs => ?_); subst hjs)); (try (conv => whnf))))
       exact hfin _ (ILes.refl _)
end Go.Proofs.YtglkpmhamekpmaaGreat.Po
