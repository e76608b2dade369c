/-
  Corpus: the law of the gazettes' order.
-/
import Derived.Test.YtglkpmhamekpmaaGh
namespace Go.Proofs.Ytglkpmhamekpmaa.Po
open Go Go.Pv Go.RowKit
set_option linter.unusedSimpArgs false
open Lab Lcs Go.Proofs.Ytglkpmhamekpmaa Go.Proofs.Ytglkpmhamekpmaa.Pu
set_option maxRecDepth 10000
set_option maxHeartbeats 32000000
theorem tq_u8 : tdOf Try.prog 5 = some ⟨false, 1, [.int .u8 0], .int .u8⟩ := by kernel_rfl
def tdlu : List (TypeId × TD) := (5, ⟨false, 1, [.int .u8 0], .int .u8⟩) :: tdl
theorem tdlu_ok : AllTd Try.prog tdlu := ⟨tq_u8, tdl_ok⟩
noncomputable def tbu : Tb := ⟨Pv.look tdlu, eqs, fun _ => none, fun _ => [], fun _ => false, nwR⟩
theorem tbu_ok : ∀ t d, tbu.td t = some d → tdOf Try.prog t = some d := Pv.look_ok tdlu_ok
theorem Few30.perm {l l' : List Gz} {m : Nat} (h : Few30 l m) (hp : l'.Perm l) : Few30 l' m :=
 h.of (fun g hg => hp.subset hg) (by rw [hp.length_eq]; exact h.len) (by
   have : numZ l' = numZ l := by unfold numZ; exact (hp.map _).sum_nat
   rw [this]; exact h.cnt)
theorem orderLaw (l : List Gz) (hF : FitL l) (t : Int) (ht : (Lit.int .u8 t).wf = true) : PC Try.prog env0 7 [.sl 4 (l.map gzv), .int .u8 t] [.bool true] := by
 have hA := awake_pc
 have hml : (l.map gzv).length = l.length := List.length_map _
 have ht0 : 0 ≤ t ∧ t ≤ 255 := by simp [Lit.wf, IntKind.min, IntKind.max, IntKind.signed, IntKind.bits] at ht; omega
 have hFw := few28_pc l 30 (by omega) (by omega) (by have := hF.1; unfold maxLen; omega) hF.2
 cases hb : fewZ l 30 with
 | false =>
   rw [hb] at hFw
   refine PC.of_va (T := tbu) eqs_ok tbu_ok rfl mixed Try.func7 rfl rfl (Nat.le_of_ble_eq_true rfl) ?_; intro Γ C WK LP fin h0 hW hC hB hR hLP hfin
   (try (conv => whnf)); (repeat ((first | refine qT ?_ | refine qF ?_ | refine qO ?_ | (with_reducible intro z hz); (first | (replace hz := hz (by omega); subst hz) | subst hz) | (refine CallV.mk _ (hC _ _ _ (PCw.of hFw)) (fun js hjs => ?_); subst hjs) | (refine CallV.mk _ (hC _ _ _ (PCw.of hA)) (fun js hjs => ?_); subst hjs)); (try (conv => whnf))))
   exact hfin _ (ILes.refl _)
 | true =>
   rw [hb] at hFw
   have h30 := few30 (m := 30) (by omega) hF.2 hb
   have hl8 := h30.len
   have hO := once_pc l (by omega) (fun g hg => by have := h30.acts g hg; omega)
   by_cases hw : twR (allA l) = []
   rotate_left
   · rw [decide_eq_false hw] at hO
     refine PC.of_va (T := tbu) eqs_ok tbu_ok rfl mixed Try.func7 rfl rfl (Nat.le_of_ble_eq_true rfl) ?_; intro Γ C WK LP fin h0 hW hC hB hR hLP hfin
     (try (conv => whnf)); (repeat ((first | refine qT ?_ | refine qF ?_ | refine qO ?_ | (with_reducible intro z hz); (first | (replace hz := hz (by omega); subst hz) | subst hz) | (refine CallV.mk _ (hC _ _ _ (PCw.of hFw)) (fun js hjs => ?_); subst hjs) | (refine CallV.mk _ (hC _ _ _ (PCw.of hO)) (fun js hjs => ?_); subst hjs) | (refine CallV.mk _ (hC _ _ _ (PCw.of hA)) (fun js hjs => ?_); subst hjs)); (try (conv => whnf))))
     exact hfin _ (ILes.refl _)
   rw [decide_eq_true hw] at hO
   by_cases hl0 : l.length = 0
   · refine PC.of_va (T := tbu) eqs_ok tbu_ok rfl mixed Try.func7 rfl rfl (Nat.le_of_ble_eq_true rfl) ?_; intro Γ C WK LP fin h0 hW hC hB hR hLP hfin
     (try (conv => whnf)); (repeat ((first | refine qT ?_ | refine qF ?_ | refine qO ?_ | (with_reducible intro z hz); (first | (replace hz := hz (by omega); subst hz) | subst hz) | (refine CallV.mk _ (hC _ _ _ (PCw.of hFw)) (fun js hjs => ?_); subst hjs) | (refine CallV.mk _ (hC _ _ _ (PCw.of hO)) (fun js hjs => ?_); subst hjs) | (refine CallV.mk _ (hC _ _ _ (PCw.of hA)) (fun js hjs => ?_); subst hjs)); (try (conv => whnf))))
     exact hfin _ (ILes.refl _)
   obtain ⟨n, hn, hnl⟩ : ∃ n : Nat, t.tmod (l.length : Nat) = (n : Int) ∧ n < l.length := by
     obtain ⟨a, rfl⟩ := Int.eq_ofNat_of_zero_le ht0.1
     exact ⟨a % l.length, (Int.ofNat_tmod _ _).symm, Nat.mod_lt _ (by omega)⟩
   have hI := h30.items (by omega)
   have h31 := h30.perm (rotG_perm l n)
   have hJ := h31.items (by omega)
   have hds := deeds_same (rotG_perm l n) hw
   rw [hds] at hJ
   have hS := rows28_pc (deeds l) (deeds l) (by have := h30.deedsLen; omega) (by have := h30.deedsLen; omega) h30.cp h30.cp
   rw [decide_eq_true rfl] at hS
   have hrl := rotG_len l n
   have hat := fun i (hi : i < l.length) => rotG_at hnl hi
   generalize deeds l = D at *
   generalize rotG l n = R at *
   refine PC.of_va (T := tbu) eqs_ok tbu_ok rfl mixed Try.func7 rfl rfl (Nat.le_of_ble_eq_true rfl) ?_; intro Γ C WK LP fin h0 hW hC hB hR hLP hfin
   (try (conv => whnf)); (repeat ((first | refine qT ?_ | refine qF ?_ | refine qO ?_ | (with_reducible intro z hz); (first | (replace hz := hz (by omega); subst hz) | subst hz) | (refine CallV.mk _ (hC _ _ _ (PCw.of hFw)) (fun js hjs => ?_); subst hjs) | (refine CallV.mk _ (hC _ _ _ (PCw.of hO)) (fun js hjs => ?_); subst hjs)); (try (conv => whnf))))
   refine hLP _ _ _ Nat (fun k => ⟨[(0, .imm (.sl 4 (l.map gzv))), (5, .imm (.int .i64 (n : Nat))), (6, .row 2 1), (7, .imm (.int .i64 ((l.length : Int) - 1 - (k : Nat))))], [.dead 0, .dead 0, .row 60 4 1 (((R.reverse.take k).map gzv).map .imm)]⟩) (fun k => k ≤ l.length) (fun k => l.length - k) 0 (Nat.zero_le _) ((WeakA.nilSlot 6 60 4 (Nat.le_of_ble_eq_true rfl) rfl).trans ((WeakA.row 2 ((((R.reverse.take 0).map gzv).map .imm)) rfl (by rfl)).trans (qSL 3 rfl rfl (hE := by (repeat ((conv => whnf); first | exact trivial | refine And.intro (by first | exact WkOne.any | exact WkOne.eq (by with_reducible rfl) rfl | exact WkOne.eq (congrArg (fun z => PV.imm (IV.int IntKind.i64 z)) (by first | omega | (simp [hml, hn]; done) | (simp [hml, hn]; omega))) rfl | exact WkOne.eq (by first | (simp [hml, hn]; done) | fail) rfl | exact WkOne.eq rfl rfl | exact WkOne.le rfl (ILe.nil _)) ?_)))))) ?_
   intro k hk
   have hho := Nat.lt_or_ge k l.length
   cases hho with
   | inl hlt =>
     refine (?_ : ∀ Q : Exit → AS → Prop, vcS _ _ _ _ _ _ _ (loopQA _ _ _ _ _ _ Q)) _; intro Q
     obtain ⟨j, g, h1, h2, h3⟩ := hat (l.length - 1 - k) (by omega)
     have hx : R.reverse[k]? = some g := by rw [List.getElem?_reverse (by omega), hrl]; exact h2
     have hst := take_at hx
     have hle : ((R.reverse.take k).map gzv).length ≤ k := by rw [List.length_map, List.length_take]; omega
     rw [show ((l.length - 1 - k : Nat) : Int) = (l.length : Int) - 1 - (k : Nat) by omega] at h3
     generalize R.reverse.take k = T at *
     have hle2 : ((T.map gzv).map PV.imm).length ≤ k := by simpa using hle
     (try (conv => whnf)); (repeat ((first | refine qT ?_ | refine qF ?_ | refine qO ?_ | (with_reducible intro z hz); (first | (replace hz := hz (by omega); subst hz) | subst hz)); (try (conv => whnf))))
     refine Idx.mk j (gzv g) _ (by rw [hml]; exact h3) (by simp [h1]) rfl ?_
     (try (conv => whnf)); (repeat ((first | refine qT ?_ | refine qF ?_ | refine qO ?_ | (with_reducible intro z hz); (first | (replace hz := hz (by omega); subst hz) | subst hz)); (try (conv => whnf))))
     refine Owe.mk (Or.inl (by show _ + 1 ≤ most; unfold most; omega)) ?_
     (try (conv => whnf)); (repeat ((first | refine qT ?_ | refine qF ?_ | refine qO ?_ | (with_reducible intro z hz); (first | (replace hz := hz (by omega); subst hz) | subst hz)); (try (conv => whnf))))
     exact ⟨k + 1, by omega, by dsimp only; omega, by
       dsimp only []
       rw [hst]
       exact ((WeakA.row 2 ((((T ++ [g]).map gzv).map .imm)) rfl (by simp [gzv, cellsI])).trans ((WeakA.renew 2 1 rfl (by first | omega | (intro _; rw [hk0 _ _ rfl]; exact Nat.le_of_ble_eq_true rfl)) (by repeat (first | exact trivial | refine And.intro (rgL_imms _ _ _ _) ?_ | refine And.intro rfl ?_))).trans (qSL 3 rfl rfl)))⟩
   | inr hge =>
     obtain rfl : k = l.length := by omega
     have htk : R.reverse.take l.length = R.reverse := List.take_of_length_le (by rw [List.length_reverse]; omega)
     rw [htk]
     (try (conv => whnf)); (repeat ((first | refine qT ?_ | refine qF ?_ | refine qO ?_ | (with_reducible intro z hz); (first | (replace hz := hz (by omega); subst hz) | subst hz)); (try (conv => whnf))))
     refine Imms.mk (R.reverse.map gzv) rfl ?_
     (try (conv => whnf)); (repeat ((first | refine qT ?_ | refine qF ?_ | refine qO ?_ | (with_reducible intro z hz); (first | (replace hz := hz (by omega); subst hz) | subst hz) | (refine CallV.mk _ (hC _ _ _ (PCw.of hJ)) (fun js hjs => ?_); subst hjs) | (refine CallV.mk _ (hC _ _ _ (PCw.of hI)) (fun js hjs => ?_); subst hjs) | (refine CallV.mk _ (hC _ _ _ (PCw.of hS)) (fun js hjs => ?_); subst hjs) | (refine CallV.mk _ (hC _ _ _ (PCw.of hA)) (fun js hjs => ?_); subst hjs)); (try (conv => whnf))))
     exact hfin _ (ILes.refl _)
end Go.Proofs.Ytglkpmhamekpmaa.Po
