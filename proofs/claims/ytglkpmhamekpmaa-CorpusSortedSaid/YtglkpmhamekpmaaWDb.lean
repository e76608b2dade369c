/-
  Corpus: copies of acts and items; the item of a reference, by the program.
-/
import Derived.Test.YtglkpmhamekpmaaWDa
namespace Go.Proofs.Ytglkpmhamekpmaa.Po
open Go Go.Pv Go.RowKit
set_option linter.unusedSimpArgs false
open Lab Lcs Go.Proofs.Ytglkpmhamekpmaa Go.Proofs.Ytglkpmhamekpmaa.Pu
set_option maxRecDepth 10000
set_option maxHeartbeats 32000000
theorem eisL_at2 {n d : Int} {l : List It} {k : Nat} {x : It} (hx : l[k]? = some x) : (eisL n d 0 l)[k]? = some ⟨n, (k : Nat), d, x⟩ := by
 have h1 := eisL_take (n := n) (d := d) hx
 have hk := (List.getElem?_eq_some_iff.1 hx).1
 have h2 : (eisL n d 0 (l.take k)).length = k := by rw [eisL_len, List.length_take]; omega
 have h3 : eisL n d 0 l = eisL n d 0 (l.take (k + 1)) ++ eisL n d (0 + (l.take (k + 1)).length) (l.drop (k + 1)) := by rw [← eisL_app, List.take_append_drop]
 rw [h3, h1, List.append_assoc, List.getElem?_append_right (by omega), h2, Nat.sub_self]
 rfl
theorem copyOf_pc (a : Ac) (hl : a.items.length ≤ 1000000) (hc : ∀ x ∈ a.items, CpI x) : PC Try.prog env0 40 [acv a] [acv a] := by
 have hI := items_pc a hl hc
 have hlen : (eiA a).length = a.items.length := eisL_len a.num a.day a.items 0
 have hml : ((eiA a).map eiv).length = a.items.length := by rw [List.length_map, hlen]
 unfold acv at hI ⊢
 refine PC.of_va (T := tbr0) eqs_ok tbr_ok rfl mixed Try.func40 rfl rfl (Nat.le_of_ble_eq_true rfl) ?_; intro Γ C WK LP fin h0 hW hC hB hR hLP hfin
 (try (conv => whnf)); (repeat ((first | refine qT ?_ | refine qF ?_ | refine qO ?_ | (with_reducible intro z hz); (first | (replace hz := hz (by omega); subst hz) | subst hz) | (refine CallV.mk _ (hC _ _ _ (PCw.of hI)) (fun js hjs => ?_); subst hjs)); (try (conv => whnf))))
 refine hLP _ _ _ Nat (fun k => ⟨[(1, .ptr 0 1 0), (2, .ptr 1 1 0), (3, .row 3 1), (7, .imm (.sl 28 ((eiA a).map eiv))), (8, .imm (.int .i64 (a.items.length : Nat))), (9, .imm (.int .i64 (k : Nat)))], [.box 1 [.imm (.int .i64 a.num), .imm (.str a.title), .imm (.int .i64 a.day), .imm (.int .i64 a.sk), .imm (.int .i64 a.sd), .imm (.str a.se), .imm (.sl 25 (a.items.map itv))], .box 1 [.imm (.int .i64 0), .imm (.str ⟨#[]⟩), .imm (.int .i64 0), .imm (.int .i64 0), .imm (.int .i64 0), .imm (.str ⟨#[]⟩), .imm .nil], .dead 0, .row 42 25 1 (((a.items.take k).map itv).map .imm)]⟩) (fun k => k ≤ a.items.length) (fun k => a.items.length - k) 0 (Nat.zero_le _) ((WeakA.nilSlot 3 42 25 (Nat.le_of_ble_eq_true rfl) rfl).trans ((WeakA.row 3 (((a.items.take 0).map itv).map .imm) rfl (by simp)).trans (qSL 4 rfl rfl (hE := by (repeat ((conv => whnf); first | exact trivial | refine And.intro (by first | exact WkOne.any | exact WkOne.eq (by with_reducible rfl) rfl | exact WkOne.eq (congrArg (fun z => PV.imm (IV.int IntKind.i64 z)) (by first | omega | (simp [hml]; done) | (simp [hml]; omega))) rfl | exact WkOne.eq (by first | (simp [hml]; done) | fail) rfl | exact WkOne.eq rfl rfl | exact WkOne.le rfl (ILe.nil _)) ?_)))))) ?_
 intro k hk
 have hho := Nat.lt_or_ge k a.items.length
 cases hho with
 | inl hlt =>
   obtain ⟨x, hx⟩ : ∃ x, a.items[k]? = some x := ⟨a.items[k], List.getElem?_eq_getElem hlt⟩
   have hex : ((eiA a).map eiv)[k]? = some (eiv ⟨a.num, (k : Nat), a.day, x⟩) := by rw [List.getElem?_map]; unfold eiA; rw [eisL_at2 hx]; rfl
   have hst := take_at hx
   have hrl : (((a.items.take k).map itv).map PV.imm).length ≤ k := by
     rw [List.length_map, List.length_map, List.length_take]; omega
   generalize a.items.take k = R at *
   (try (conv => whnf)); (repeat ((first | refine qT ?_ | refine qF ?_ | refine qO ?_ | (with_reducible intro z hz); (first | (replace hz := hz (by omega); subst hz) | subst hz)); (try (conv => whnf))))
   refine Idx.mk k (eiv ⟨a.num, (k : Nat), a.day, x⟩) _ rfl hex (by rw [eiv_eq]) ?_
   (try (conv => whnf)); (repeat ((first | refine qT ?_ | refine qF ?_ | refine qO ?_ | (with_reducible intro z hz); (first | (replace hz := hz (by omega); subst hz) | subst hz)); (try (conv => whnf))))
   refine Owe.mk (by first | (show _ + 1 ≤ most; unfold most; omega) | (refine Or.inl ?_; show _ + 1 ≤ most; unfold most; omega)) ?_
   (try (conv => whnf)); (repeat ((first | refine qT ?_ | refine qF ?_ | refine qO ?_ | (with_reducible intro z hz); (first | (replace hz := hz (by omega); subst hz) | subst hz)); (try (conv => whnf))))
   refine ⟨k + 1, by omega, by dsimp only; omega, ?_⟩
   dsimp only []
   rw [hst]
   exact ((WeakA.row 3 (((R ++ [x]).map itv).map .imm) rfl (by simp [itv_eq]))).trans ((WeakA.renew 3 1 rfl (by first | omega | (intro _; rw [hk0 _ _ rfl]; exact Nat.le_of_ble_eq_true rfl)) (by repeat (first | exact trivial | refine And.intro (rgL_imms _ _ _ _) ?_ | refine And.intro rfl ?_))).trans (qSL 4 rfl rfl))
 | inr hge =>
   obtain rfl : k = a.items.length := by omega
   rw [List.take_length]
   (try (conv => whnf)); (repeat ((first | refine qT ?_ | refine qF ?_ | refine qO ?_ | (with_reducible intro z hz); (first | (replace hz := hz (by omega); subst hz) | subst hz)); (try (conv => whnf))))
   refine Imms.mk (a.items.map itv) rfl ?_
   (try (conv => whnf)); (repeat ((first | refine qT ?_ | refine qF ?_ | refine qO ?_ | (with_reducible intro z hz); (first | (replace hz := hz (by omega); subst hz) | subst hz)); (try (conv => whnf))))
   exact hfin _ (ILes.refl _)
abbrev agR (a : Ac) : PV := .agg [.imm (.int .i64 a.num), .imm (.str a.title), .imm (.int .i64 a.day), .imm (.int .i64 a.sk), .imm (.int .i64 a.sd), .imm (.str a.se), .row 0 1]
theorem itemsR_pcb (a : Ac) (hl : a.items.length ≤ 1000000) (hc : ∀ x ∈ a.items, CpI x) : PCB Try.prog env0 27 [agR a] [rwI 1 a.items] [.imm (.sl 28 ((eiA a).map eiv))] [rwI 1 a.items] := by
 have hml : ((a.items.map itv).map PV.imm).length = a.items.length := by simp
 unfold eiA
 refine PCB.of_va (T := (tbrf fun r => match r with | 7 => [2] | _ => [])) eqs_ok tbr_ok rfl mixed Try.func27 rfl rfl rfl (Nat.le_of_ble_eq_true rfl) rfl ?_; intro Γ C WK LP fin h0 hk0 hW hC hB hR hLP hfin
 have h03 : Γ.n0 = 1 := h0
 (try (conv => whnf)); (repeat ((first | refine qT ?_ | refine qF ?_ | refine qO ?_ | (with_reducible intro z hz); (first | (replace hz := hz (by omega); subst hz) | subst hz)); (try (conv => whnf))))
 refine hLP _ _ _ Nat (fun k => ⟨[(1, .ptr 1 1 0), (3, .row 2 1), (7, .row 0 1), (8, .imm (.int .i64 (a.items.length : Nat))), (9, .imm (.int .i64 (k : Nat)))], [rwI 1 a.items, .box 1 [.imm (.int .i64 a.num), .imm (.str a.title), .imm (.int .i64 a.day), .imm (.int .i64 a.sk), .imm (.int .i64 a.sd), .imm (.str a.se), .row 0 1], .row 44 28 1 (((eisL a.num a.day 0 (a.items.take k)).map eiv).map .imm)]⟩) (fun k => k ≤ a.items.length) (fun k => a.items.length - k) 0 (Nat.zero_le _) ((WeakA.nilSlot 3 44 28 (Nat.le_of_ble_eq_true rfl) rfl).trans ((WeakA.row 2 (((eisL a.num a.day 0 (a.items.take 0)).map eiv).map .imm) rfl (by simp [eisL])).trans (qSL 3 rfl rfl (hE := by (repeat ((conv => whnf); first | exact trivial | refine And.intro (by first | exact WkOne.any | exact WkOne.eq (by with_reducible rfl) rfl | exact WkOne.eq (congrArg (fun z => PV.imm (IV.int IntKind.i64 z)) (by first | omega | (simp [hml]; done) | (simp [hml]; omega))) rfl | exact WkOne.eq (by first | (simp [hml]; done) | fail) rfl | exact WkOne.eq rfl rfl | exact WkOne.le rfl (ILe.nil _)) ?_)))))) ?_
 intro k hk
 have hho := Nat.lt_or_ge k a.items.length
 cases hho with
 | inl hlt =>
   refine (?_ : ∀ Q : Exit → AS → Prop, vcS _ _ _ _ _ _ _ (loopQA _ _ _ _ _ _ Q)) _; intro Q
   obtain ⟨x, hx⟩ : ∃ x, a.items[k]? = some x := ⟨a.items[k], List.getElem?_eq_getElem hlt⟩
   have hC2 := copyItem_pc x (hc x (List.mem_of_getElem? hx))
   have hst := eisL_take (n := a.num) (d := a.day) hx
   have hrx : ((a.items.map itv).map PV.imm)[k]? = some (.imm (itv x)) := by simp [hx]
   have hrl : (((eisL a.num a.day 0 (a.items.take k)).map eiv).map PV.imm).length ≤ k := by
     rw [List.length_map, List.length_map, eisL_len, List.length_take]; omega
   rw [itv_eq x] at hC2 hrx
   generalize eisL a.num a.day 0 (a.items.take k) = R at *
   (try (conv => whnf)); (repeat ((first | refine qT ?_ | refine qF ?_ | refine qO ?_ | (with_reducible intro z hz); (first | (replace hz := hz (by omega); subst hz) | subst hz)); (try (conv => whnf))))
   refine Pos.mk k rfl (by omega) ?_
   (try (conv => whnf)); (repeat ((first | refine qT ?_ | refine qF ?_ | refine qO ?_ | (with_reducible intro z hz); (first | (replace hz := hz (by omega); subst hz) | subst hz)); (try (conv => whnf))))
   refine At.mk _ hrx ?_
   (try (conv => whnf)); (repeat ((first | refine qT ?_ | refine qF ?_ | refine qO ?_ | (with_reducible intro z hz); (first | (replace hz := hz (by omega); subst hz) | subst hz) | (refine CallV.mk _ (hC _ _ _ (PCw.of hC2)) (fun js hjs => ?_); subst hjs)); (try (conv => whnf))))
   refine Owe.mk (by first | (show _ + 1 ≤ most; unfold most; omega) | (refine Or.inl ?_; show _ + 1 ≤ most; unfold most; omega)) ?_
   (try (conv => whnf)); (repeat ((first | refine qT ?_ | refine qF ?_ | refine qO ?_ | (with_reducible intro z hz); (first | (replace hz := hz (by omega); subst hz) | subst hz)); (try (conv => whnf))))
   refine ⟨k + 1, by omega, by dsimp only; omega, ?_⟩
   dsimp only []
   rw [hst]
   exact ((WeakA.row 2 (((R ++ [(⟨a.num, (k : Nat), a.day, x⟩ : Ei)]).map eiv).map .imm) rfl (by simp [eiv]))).trans ((WeakA.renew 2 1 rfl (by first | omega | (intro _; rw [hk0 _ _ rfl]; exact Nat.le_of_ble_eq_true rfl)) (by repeat (first | exact trivial | refine And.intro (rgL_imms _ _ _ _) ?_ | refine And.intro rfl ?_))).trans (qSL 3 rfl rfl))
 | inr hge =>
   obtain rfl : k = a.items.length := by omega
   rw [List.take_length]
   (try (conv => whnf)); (repeat ((first | refine qT ?_ | refine qF ?_ | refine qO ?_ | (with_reducible intro z hz); (first | (replace hz := hz (by omega); subst hz) | subst hz)); (try (conv => whnf))))
   refine Imms.mk ((eisL a.num a.day 0 a.items).map eiv) rfl ?_
   (try (conv => whnf)); (repeat ((first | refine qT ?_ | refine qF ?_ | refine qO ?_ | (with_reducible intro z hz); (first | (replace hz := hz (by omega); subst hz) | subst hz)); (try (conv => whnf))))
   exact hfin _ ((WeakA.row 0 (((a.items.map itv).map .imm)) rfl (by exact fzL_imm _ _ _ _)).trans (qSL 1 rfl rfl))
theorem copyOfR_pcb (a : Ac) (hl : a.items.length ≤ 1000000) (hc : ∀ x ∈ a.items, CpI x) : PCB Try.prog env0 40 [agR a] [rwI 1 a.items] [.imm (acv a)] [rwI 1 a.items] := by
 have hI := itemsR_pcb a hl hc
 unfold agR at hI ⊢
 have hlen : (eiA a).length = a.items.length := eisL_len a.num a.day a.items 0
 have hml : ((eiA a).map eiv).length = a.items.length := by rw [List.length_map, hlen]
 unfold acv
 refine PCB.of_va (T := (tbrf fun r => match r with | 7 => [4] | _ => [])) eqs_ok tbr_ok rfl mixed Try.func40 rfl rfl rfl (Nat.le_of_ble_eq_true rfl) rfl ?_; intro Γ C WK LP fin h0 hk0 hW hC hB hR hLP hfin
 have h03 : Γ.n0 = 1 := h0
 (try (conv => whnf)); (repeat ((first | refine qT ?_ | refine qF ?_ | refine qO ?_ | (with_reducible intro z hz); (first | (replace hz := hz (by omega); subst hz) | subst hz)); (try (conv => whnf))))
 refine Imms.mk (a.items.map itv) rfl ?_
 refine CallB.mk ([.imm (.sl 28 ((eiA a).map eiv))]) ([rwIC 1 a.items]) (hB _ _ _ _ _ (hI)) ?_
 (try (conv => whnf)); (repeat ((first | refine qT ?_ | refine qF ?_ | refine qO ?_ | (with_reducible intro z hz); (first | (replace hz := hz (by omega); subst hz) | subst hz)); (try (conv => whnf))))
 refine hLP _ _ _ Nat (fun k => ⟨[(1, .ptr 1 1 0), (2, .ptr 2 1 0), (3, .row 4 1), (7, .imm (.sl 28 ((eiA a).map eiv))), (8, .imm (.int .i64 (a.items.length : Nat))), (9, .imm (.int .i64 (k : Nat)))], [rwI 1 a.items, .box 1 [.imm (.int .i64 a.num), .imm (.str a.title), .imm (.int .i64 a.day), .imm (.int .i64 a.sk), .imm (.int .i64 a.sd), .imm (.str a.se), .row 0 1], .box 1 [.imm (.int .i64 0), .imm (.str ⟨#[]⟩), .imm (.int .i64 0), .imm (.int .i64 0), .imm (.int .i64 0), .imm (.str ⟨#[]⟩), .imm .nil], .dead 0, .row 42 25 1 (((a.items.take k).map itv).map .imm)]⟩) (fun k => k ≤ a.items.length) (fun k => a.items.length - k) 0 (Nat.zero_le _) ((WeakA.nilSlot 3 42 25 (Nat.le_of_ble_eq_true rfl) rfl).trans ((WeakA.row 4 (((a.items.take 0).map itv).map .imm) rfl (by simp)).trans (qSL 5 rfl rfl (hE := by (repeat ((conv => whnf); first | exact trivial | refine And.intro (by first | exact WkOne.any | exact WkOne.eq (by with_reducible rfl) rfl | exact WkOne.eq (congrArg (fun z => PV.imm (IV.int IntKind.i64 z)) (by first | omega | (simp [hml]; done) | (simp [hml]; omega))) rfl | exact WkOne.eq (by first | (simp [hml]; done) | fail) rfl | exact WkOne.eq rfl rfl | exact WkOne.le rfl (ILe.nil _)) ?_)))))) ?_
 intro k hk
 have hho := Nat.lt_or_ge k a.items.length
 cases hho with
 | inl hlt =>
   refine (?_ : ∀ Q : Exit → AS → Prop, vcS _ _ _ _ _ _ _ (loopQA _ _ _ _ _ _ Q)) _; intro Q
   obtain ⟨x, hx⟩ : ∃ x, a.items[k]? = some x := ⟨a.items[k], List.getElem?_eq_getElem hlt⟩
   have hex : ((eiA a).map eiv)[k]? = some (eiv ⟨a.num, (k : Nat), a.day, x⟩) := by rw [List.getElem?_map]; unfold eiA; rw [eisL_at2 hx]; rfl
   have hst := take_at hx
   have hrl : (((a.items.take k).map itv).map PV.imm).length ≤ k := by
     rw [List.length_map, List.length_map, List.length_take]; omega
   generalize a.items.take k = R at *
   (try (conv => whnf)); (repeat ((first | refine qT ?_ | refine qF ?_ | refine qO ?_ | (with_reducible intro z hz); (first | (replace hz := hz (by omega); subst hz) | subst hz)); (try (conv => whnf))))
   refine Idx.mk k (eiv ⟨a.num, (k : Nat), a.day, x⟩) _ rfl hex (by rw [eiv_eq]) ?_
   (try (conv => whnf)); (repeat ((first | refine qT ?_ | refine qF ?_ | refine qO ?_ | (with_reducible intro z hz); (first | (replace hz := hz (by omega); subst hz) | subst hz)); (try (conv => whnf))))
   refine Owe.mk (by first | (show _ + 1 ≤ most; unfold most; omega) | (refine Or.inl ?_; show _ + 1 ≤ most; unfold most; omega)) ?_
   (try (conv => whnf)); (repeat ((first | refine qT ?_ | refine qF ?_ | refine qO ?_ | (with_reducible intro z hz); (first | (replace hz := hz (by omega); subst hz) | subst hz)); (try (conv => whnf))))
   refine ⟨k + 1, by omega, by dsimp only; omega, ?_⟩
   dsimp only []
   rw [hst]
   exact ((WeakA.row 4 (((R ++ [x]).map itv).map .imm) rfl (by simp [itv_eq]))).trans ((WeakA.renew 4 1 rfl (by first | omega | (intro _; rw [hk0 _ _ rfl]; exact Nat.le_of_ble_eq_true rfl)) (by repeat (first | exact trivial | refine And.intro (rgL_imms _ _ _ _) ?_ | refine And.intro rfl ?_))).trans (qSL 5 rfl rfl))
 | inr hge =>
   obtain rfl : k = a.items.length := by omega
   rw [List.take_length]
   (try (conv => whnf)); (repeat ((first | refine qT ?_ | refine qF ?_ | refine qO ?_ | (with_reducible intro z hz); (first | (replace hz := hz (by omega); subst hz) | subst hz)); (try (conv => whnf))))
   refine Imms.mk (a.items.map itv) rfl ?_
   (try (conv => whnf)); (repeat ((first | refine qT ?_ | refine qF ?_ | refine qO ?_ | (with_reducible intro z hz); (first | (replace hz := hz (by omega); subst hz) | subst hz)); (try (conv => whnf))))
   exact hfin _ ((WeakA.row 0 (((a.items.map itv).map .imm)) rfl (by exact fzL_imm _ _ _ _)).trans (qSL 1 rfl rfl))
theorem copyOfItem_pc (x : It) (hc : CpI x) : PC Try.prog env0 33 [itv x] [itv x] := by
 have hO := copyOfR_pcb ⟨0, z0, 0, 0, 0, z0, [x]⟩ (by simp) (by simpa using hc)
 unfold acv at hO
 rw [itv_eq x]
 refine PC.of_va (T := tbr0) eqs_ok tbr_ok rfl mixed Try.func33 rfl rfl (Nat.le_of_ble_eq_true rfl) ?_; intro Γ C WK LP fin h0 hW hC hB hR hLP hfin
 (try (conv => whnf)); (repeat ((first | refine qT ?_ | refine qF ?_ | refine qO ?_ | (with_reducible intro z hz); (first | (replace hz := hz (by omega); subst hz) | subst hz)); (try (conv => whnf))))
 refine Imms.mk [itv x] (by rw [itv_eq x]; rfl) ?_
 refine CallB.mk ([.imm (acv ⟨0, z0, 0, 0, 0, z0, [x]⟩)]) ([.row 42 25 1 [itv x]]) (hB _ _ _ _ _ (hO)) ?_
 unfold acv
 (try (conv => whnf)); (repeat ((first | refine qT ?_ | refine qF ?_ | refine qO ?_ | (with_reducible intro z hz); (first | (replace hz := hz (by omega); subst hz) | subst hz)); (try (conv => whnf))))
 refine Idx.mk 0 (itv x) _ rfl rfl (by rw [itv_eq x]) ?_
 (try (conv => whnf)); (repeat ((first | refine qT ?_ | refine qF ?_ | refine qO ?_ | (with_reducible intro z hz); (first | (replace hz := hz (by omega); subst hz) | subst hz)); (try (conv => whnf))))
 exact hfin _ (ILes.refl _)
end Go.Proofs.Ytglkpmhamekpmaa.Po
