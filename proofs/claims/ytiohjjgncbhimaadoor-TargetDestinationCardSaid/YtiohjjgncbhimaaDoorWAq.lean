/-
  visit with the closure that gathers, firstMatches, kidsMatching. kidsMatching, matches, FindAll, FindOne. matches, FindAll, FindOne. The reference's Ids; short.
-/
import Derived.Test.YtiohjjgncbhimaaDoorWAm
namespace Go.Proofs.YtiohjjgncbhimaaDoor.Pa
open Go Go.Pv Go.Proofs.YtiohjjgncbhimaaDoor.Pu
set_option linter.unusedSimpArgs false
open Lab Lcs Go.Proofs.YtiohjjgncbhimaaDoor Go.RowKit
set_option maxRecDepth 10000
set_option maxHeartbeats 16000000
theorem alls_fil {l : List Ut} {k : Nat} {x : Ut} (s : Stp) (hx : l[k]? = some x) : (Ut.alls (l.take (k + 1))).filter (isS s) = (Ut.alls (l.take k)).filter (isS s) ++ x.all.filter (isS s) := by
 rw [alls_take hx, List.filter_append]
theorem fil_len (s : Stp) (l : List Ut) : (l.filter (isS s)).length ≤ l.length := List.length_filter_le _ _
theorem all_fil (u : Ut) (s : Stp) : u.all.filter (isS s) = (if isS s u = true then [u] else []) ++ (Ut.alls u.kids).filter (isS s) := by
 rw [Ut.all_eq]
 by_cases h : isS s u = true
 · rw [if_pos h, List.filter_cons_of_pos h]; rfl
 · rw [if_neg h, List.filter_cons_of_neg h]; rfl
theorem if_len (s : Stp) (u : Ut) : (if isS s u = true then [u] else []).length ≤ 1 := by split <;> simp
theorem visit_pcb (s : Stp) (n : Nat) : ∀ (u : Ut) (L : List Ut) (d : Nat), u.count ≤ n → L.length + u.count ≤ 100000000 → d + u.count ≤ 100000000 → PCB Tryd.prog envU 66 [.imm (uv u), .imm (.int .i64 (d : Nat)), .clo 67 [.ptr 0 1 0, .ptr 1 1 0]] [.box 1 [.imm (.int .i64 (s).kind), .imm (.str (s).label)], .box 1 [.row 2 1], .row 27 8 1 ((List.map uv (L)).map .imm)] [.imm (.bool true)] [.box 1 [.imm (.int .i64 (s).kind), .imm (.str (s).label)], .box 1 [.row 2 2], .row 27 8 2 ((List.map uv (L ++ u.all.filter (isS s))).map .imm)] := by
 induction n with
 | zero => intro u L d h; have := count_pos u; omega
 | succ n ih =>
 intro u L d hn hM hd
 have hue := uv_eq u
 have hcu := Ut.count_eq u
 have hkl := kids_counts u.kids
 have hml : (u.kids.map uv).length = u.kids.length := List.length_map _
 have hI := gather_pcb L u s d (by omega)
 have hf := all_fil u s
 have hil := if_len s u
 generalize hL' : (if isS s u = true then [u] else []) = L' at hI hf hil
 rw [hue] at hI ⊢
 refine PCB.of_va (T := tb0) eqs2_ok tb_ok rfl mixed Tryd.func66 rfl rfl rfl (Nat.le_of_ble_eq_true rfl) rfl ?_; intro Γ C WK LP fin h0 hk0 hW hC hB hR hLP hfin
 (try (conv => whnf)); (repeat ((first | (with_reducible refine Fork.T (fun hc => ?_) ?_); (exfalso; first | omega | (simp [eqC, cellsI, idv, idl] at hc; first | done | omega) | contradiction) | (with_reducible refine Fork.F (fun hc => ?_) ?_); (exfalso; first | omega | (simp [eqC, cellsI, idv, idl] at hc; first | done | omega) | contradiction) | (with_reducible refine Owe.mk ?_ ?_); (first | omega | (unfold most; omega) | decide +kernel | exact Nat.le_of_ble_eq_true rfl | assumption | (simp [most]; omega)) | (with_reducible intro z hz); (first | (replace hz := hz (by omega); subst hz) | subst hz)); (try (conv => whnf))))
 refine Imms.mk _ rfl ?_
 (try (conv => whnf)); (repeat ((first | (with_reducible refine Fork.T (fun hc => ?_) ?_); (exfalso; first | omega | (simp [eqC, cellsI, idv, idl] at hc; first | done | omega) | contradiction) | (with_reducible refine Fork.F (fun hc => ?_) ?_); (exfalso; first | omega | (simp [eqC, cellsI, idv, idl] at hc; first | done | omega) | contradiction) | (with_reducible refine Owe.mk ?_ ?_); (first | omega | (unfold most; omega) | decide +kernel | exact Nat.le_of_ble_eq_true rfl | assumption | (simp [most]; omega)) | (with_reducible intro z hz); (first | (replace hz := hz (by omega); subst hz) | subst hz)); (try (conv => whnf))))
 refine CallB.mk ([.imm (.bool true)]) ([.box 1 [.imm (.int .i64 (s).kind), .imm (.str (s).label)], .box 1 [.row 2 2], .row 27 8 2 (List.map uv (L ++ L'))]) (hB _ _ _ _ _ (hI)) ?_
 (try (conv => whnf)); (repeat ((first | (with_reducible refine Fork.T (fun hc => ?_) ?_); (exfalso; first | omega | (simp [eqC, cellsI, idv, idl] at hc; first | done | omega) | contradiction) | (with_reducible refine Fork.F (fun hc => ?_) ?_); (exfalso; first | omega | (simp [eqC, cellsI, idv, idl] at hc; first | done | omega) | contradiction) | (with_reducible refine Owe.mk ?_ ?_); (first | omega | (unfold most; omega) | decide +kernel | exact Nat.le_of_ble_eq_true rfl | assumption | (simp [most]; omega)) | (with_reducible intro z hz); (first | (replace hz := hz (by omega); subst hz) | subst hz)); (try (conv => whnf))))
 refine hLP _ _ _ Nat (fun k => ⟨[(1, .imm (.int .i64 (d : Nat))), (2, .clo 67 [.ptr 0 1 0, .ptr 1 1 0]), (15, .imm (.sl 8 (u.kids.map uv))), (16, .imm (.int .i64 (u.kids.length : Nat))), (17, .imm (.int .i64 (k : Nat)))], [.box 1 [.imm (.int .i64 (s).kind), .imm (.str (s).label)], .box 1 [.row 2 2], .row 27 8 2 ((List.map uv (L ++ L' ++ (Ut.alls (u.kids.take k)).filter (isS s))).map .imm)]⟩) (fun k => k ≤ u.kids.length) (fun k => u.kids.length - k) 0 (Nat.zero_le _) (((WeakA.row 2 (((L ++ L' ++ (Ut.alls (u.kids.take 0)).filter (isS s)).map uv).map .imm) rfl (by simp [Ut.alls]))).trans (WeakA.slots 3 (by first | omega | (rw [h0]; exact Nat.le_of_ble_eq_true rfl)) rfl rfl (by first | (simp only [List.all_cons, List.all_nil, blkBelow, belowL_imm, belowL, belowB, Bool.and_true, Bool.true_and]; first | done | decide) | rfl | simp [blkBelow, belowB, belowL, belowL_imm]) (by (repeat ((conv => whnf); first | exact trivial | refine And.intro (by first | exact WkOne.any | exact WkOne.eq (by with_reducible rfl) rfl | exact WkOne.int (by first | omega | (simp; first | done | omega)) | exact WkOne.eq rfl rfl | exact WkOne.le rfl (ILe.nil _)) ?_))))) ?_
 intro k hk
 by_cases hlt : k < u.kids.length
 · obtain ⟨x, hx⟩ := at_k hlt
   have h1 := kid_lt' hx
   have hux := uv_eq x
   have hlk := alls_length (u.kids.take k)
   have hfl := fil_len s (Ut.alls (u.kids.take k))
   have hI2 := ih x (L ++ L' ++ (Ut.alls (u.kids.take k)).filter (isS s)) (d + 1) (by omega) (by simp only [List.length_append]; omega) (by omega)
   rw [hux, show ((d + 1 : Nat) : Int) = (d : Int) + 1 by omega] at hI2
   (try (conv => whnf)); (repeat ((first | (with_reducible refine Fork.T (fun hc => ?_) ?_); (exfalso; first | omega | (simp [eqC, cellsI, idv, idl] at hc; first | done | omega) | contradiction) | (with_reducible refine Fork.F (fun hc => ?_) ?_); (exfalso; first | omega | (simp [eqC, cellsI, idv, idl] at hc; first | done | omega) | contradiction) | (with_reducible refine Owe.mk ?_ ?_); (first | omega | (unfold most; omega) | decide +kernel | exact Nat.le_of_ble_eq_true rfl | assumption | (simp [most]; omega)) | (with_reducible intro z hz); (first | (replace hz := hz (by omega); subst hz) | subst hz)); (try (conv => whnf))))
   refine Idx.mk k (uv x) _ rfl (by simp [hx]) (by rw [hux]; try rfl) ?_
   (try (conv => whnf)); (repeat ((first | (with_reducible refine Fork.T (fun hc => ?_) ?_); (exfalso; first | omega | (simp [eqC, cellsI, idv, idl] at hc; first | done | omega) | contradiction) | (with_reducible refine Fork.F (fun hc => ?_) ?_); (exfalso; first | omega | (simp [eqC, cellsI, idv, idl] at hc; first | done | omega) | contradiction) | (with_reducible refine Owe.mk ?_ ?_); (first | omega | (unfold most; omega) | decide +kernel | exact Nat.le_of_ble_eq_true rfl | assumption | (simp [most]; omega)) | (with_reducible intro z hz); (first | (replace hz := hz (by omega); subst hz) | subst hz)); (try (conv => whnf))))
   refine Imms.mk _ rfl ?_
   (try (conv => whnf)); (repeat ((first | (with_reducible refine Fork.T (fun hc => ?_) ?_); (exfalso; first | omega | (simp [eqC, cellsI, idv, idl] at hc; first | done | omega) | contradiction) | (with_reducible refine Fork.F (fun hc => ?_) ?_); (exfalso; first | omega | (simp [eqC, cellsI, idv, idl] at hc; first | done | omega) | contradiction) | (with_reducible refine Owe.mk ?_ ?_); (first | omega | (unfold most; omega) | decide +kernel | exact Nat.le_of_ble_eq_true rfl | assumption | (simp [most]; omega)) | (with_reducible intro z hz); (first | (replace hz := hz (by omega); subst hz) | subst hz)); (try (conv => whnf))))
   refine CallB.mk ([.imm (.bool true)]) ([.box 1 [.imm (.int .i64 (s).kind), .imm (.str (s).label)], .box 1 [.row 2 2], .row 27 8 2 (List.map uv (L ++ L' ++ (Ut.alls (u.kids.take k)).filter (isS s) ++ x.all.filter (isS s)))]) (hB _ _ _ _ _ (hI2)) ?_
   (try (conv => whnf)); (repeat ((first | (with_reducible refine Fork.T (fun hc => ?_) ?_); (exfalso; first | omega | (simp [eqC, cellsI, idv, idl] at hc; first | done | omega) | contradiction) | (with_reducible refine Fork.F (fun hc => ?_) ?_); (exfalso; first | omega | (simp [eqC, cellsI, idv, idl] at hc; first | done | omega) | contradiction) | (with_reducible refine Owe.mk ?_ ?_); (first | omega | (unfold most; omega) | decide +kernel | exact Nat.le_of_ble_eq_true rfl | assumption | (simp [most]; omega)) | (with_reducible intro z hz); (first | (replace hz := hz (by omega); subst hz) | subst hz)); (try (conv => whnf))))
   exact ⟨k + 1, by omega, by dsimp only; omega, ((WeakA.row 2 (((L ++ L' ++ (Ut.alls (u.kids.take (k + 1))).filter (isS s)).map uv).map .imm) rfl (by rw [alls_fil s hx]; simp))).trans ((WeakA.renew 2 2 rfl (by first | omega | (intro _; rw [hk0 _ _ rfl]; exact Nat.le_of_ble_eq_true rfl)) (by repeat (first | exact trivial | refine And.intro (rgL_imms _ _ _ _) ?_ | refine And.intro rfl ?_))).trans (WeakA.slots 3 (by first | omega | (rw [h0]; exact Nat.le_of_ble_eq_true rfl)) rfl rfl (by first | (simp only [List.all_cons, List.all_nil, blkBelow, belowL_imm, belowL, belowB, Bool.and_true, Bool.true_and]; first | done | decide) | rfl | simp [blkBelow, belowB, belowL, belowL_imm]) (by (repeat ((conv => whnf); first | exact trivial | refine And.intro (by first | exact WkOne.any | exact WkOne.eq (by with_reducible rfl) rfl | exact WkOne.int (by first | omega | (simp; first | done | omega)) | exact WkOne.eq rfl rfl | exact WkOne.le rfl (ILe.nil _)) ?_)))))⟩
 · (try (conv => whnf)); (repeat ((first | (with_reducible refine Fork.T (fun hc => ?_) ?_); (exfalso; first | omega | (simp [eqC, cellsI, idv, idl] at hc; first | done | omega) | contradiction) | (with_reducible refine Fork.F (fun hc => ?_) ?_); (exfalso; first | omega | (simp [eqC, cellsI, idv, idl] at hc; first | done | omega) | contradiction) | (with_reducible refine Owe.mk ?_ ?_); (first | omega | (unfold most; omega) | decide +kernel | exact Nat.le_of_ble_eq_true rfl | assumption | (simp [most]; omega)) | (with_reducible intro z hz); (first | (replace hz := hz (by omega); subst hz) | subst hz)); (try (conv => whnf))))
   obtain rfl : k = u.kids.length := by omega
   refine hfin _ (((WeakA.row 2 (((L ++ u.all.filter (isS s)).map uv).map .imm) rfl (by rw [List.take_length, hf]; simp))).trans (WeakA.slots 3 (by first | omega | (rw [h0]; exact Nat.le_of_ble_eq_true rfl)) rfl rfl (by first | (simp only [List.all_cons, List.all_nil, blkBelow, belowL_imm, belowL, belowB, Bool.and_true, Bool.true_and]; first | done | decide) | rfl | simp [blkBelow, belowB, belowL, belowL_imm]) (by (repeat ((conv => whnf); first | exact trivial | refine And.intro (by first | exact WkOne.any | exact WkOne.eq (by with_reducible rfl) rfl | exact WkOne.int (by first | omega | (simp; first | done | omega)) | exact WkOne.eq rfl rfl | exact WkOne.le rfl (ILe.nil _)) ?_)))))
theorem firstM_pc (u : Ut) (s : Stp) (hc : u.count ≤ 10000) : PC Tryd.prog envU 53 [uv u, spv s] [.sl 8 ((firstM u s).map uv)] := by
 have hBk := isBook_pc s
 have hI := visit_pcb s u.count u [] 0 (Nat.le_refl _) (by simp; omega) (by omega)
 have hue := uv_eq u
 unfold firstM
 rw [hue] at hI ⊢
 unfold spv spl at hBk ⊢
 cases hb : bookB s with
 | true =>
   rw [hb] at hBk
   refine PC.of_va (T := tb0) eqs2_ok tb_ok rfl mixed Tryd.func53 rfl rfl (Nat.le_of_ble_eq_true rfl) ?_; intro Γ C WK LP fin h0 hW hC hB hR hLP hfin
   (try (conv => whnf)); (repeat ((first | (with_reducible refine Fork.T (fun hc => ?_) ?_); (exfalso; first | omega | (simp [eqC, cellsI, idv, idl] at hc; first | done | omega) | contradiction) | (with_reducible refine Fork.F (fun hc => ?_) ?_); (exfalso; first | omega | (simp [eqC, cellsI, idv, idl] at hc; first | done | omega) | contradiction) | (with_reducible refine Owe.mk ?_ ?_); (first | omega | (unfold most; omega) | decide +kernel | exact Nat.le_of_ble_eq_true rfl | assumption | (simp [most]; omega)) | (with_reducible intro z hz); (first | (replace hz := hz (by omega); subst hz) | subst hz)); (try (conv => whnf))))
   refine CallV.mk _ (hC _ _ _ (PCw.of (hBk))) (fun js hjs => ?_); subst hjs
   (try (conv => whnf)); (repeat ((first | (with_reducible refine Fork.T (fun hc => ?_) ?_); (exfalso; first | omega | (simp [eqC, cellsI, idv, idl] at hc; first | done | omega) | contradiction) | (with_reducible refine Fork.F (fun hc => ?_) ?_); (exfalso; first | omega | (simp [eqC, cellsI, idv, idl] at hc; first | done | omega) | contradiction) | (with_reducible refine Owe.mk ?_ ?_); (first | omega | (unfold most; omega) | decide +kernel | exact Nat.le_of_ble_eq_true rfl | assumption | (simp [most]; omega)) | (with_reducible intro z hz); (first | (replace hz := hz (by omega); subst hz) | subst hz)); (try (conv => whnf))))
   refine Imms.mk [uv u] (by rw [hue]; rfl) ?_
   refine hfin _ ?_
   rw [if_pos rfl]
   exact ILes.refl _
 | false =>
   rw [hb] at hBk
   refine PC.of_va (T := (tbk fun r => match r with | 4 => true | _ => false)) eqs2_ok tb_ok rfl mixed Tryd.func53 rfl rfl (Nat.le_of_ble_eq_true rfl) ?_; intro Γ C WK LP fin h0 hW hC hB hR hLP hfin
   (try (conv => whnf)); (repeat ((first | (with_reducible refine Fork.T (fun hc => ?_) ?_); (exfalso; first | omega | (simp [eqC, cellsI, idv, idl] at hc; first | done | omega) | contradiction) | (with_reducible refine Fork.F (fun hc => ?_) ?_); (exfalso; first | omega | (simp [eqC, cellsI, idv, idl] at hc; first | done | omega) | contradiction) | (with_reducible refine Owe.mk ?_ ?_); (first | omega | (unfold most; omega) | decide +kernel | exact Nat.le_of_ble_eq_true rfl | assumption | (simp [most]; omega)) | (with_reducible intro z hz); (first | (replace hz := hz (by omega); subst hz) | subst hz)); (try (conv => whnf))))
   refine CallV.mk _ (hC _ _ _ (PCw.of (hBk))) (fun js hjs => ?_); subst hjs
   (try (conv => whnf)); (repeat ((first | (with_reducible refine Fork.T (fun hc => ?_) ?_); (exfalso; first | omega | (simp [eqC, cellsI, idv, idl] at hc; first | done | omega) | contradiction) | (with_reducible refine Fork.F (fun hc => ?_) ?_); (exfalso; first | omega | (simp [eqC, cellsI, idv, idl] at hc; first | done | omega) | contradiction) | (with_reducible refine Owe.mk ?_ ?_); (first | omega | (unfold most; omega) | decide +kernel | exact Nat.le_of_ble_eq_true rfl | assumption | (simp [most]; omega)) | (with_reducible intro z hz); (first | (replace hz := hz (by omega); subst hz) | subst hz)); (try (conv => whnf))))
   refine hW _ _ _ ((WeakA.nilBox 3 0 27 8 rfl rfl)) ?_
   (try (conv => whnf)); (repeat ((first | (with_reducible refine Fork.T (fun hc => ?_) ?_); (exfalso; first | omega | (simp [eqC, cellsI, idv, idl] at hc; first | done | omega) | contradiction) | (with_reducible refine Fork.F (fun hc => ?_) ?_); (exfalso; first | omega | (simp [eqC, cellsI, idv, idl] at hc; first | done | omega) | contradiction) | (with_reducible refine Owe.mk ?_ ?_); (first | omega | (unfold most; omega) | decide +kernel | exact Nat.le_of_ble_eq_true rfl | assumption | (simp [most]; omega)) | (with_reducible intro z hz); (first | (replace hz := hz (by omega); subst hz) | subst hz)); (try (conv => whnf))))
   refine Imms.mk [] rfl ?_
   (try (conv => whnf)); (repeat ((first | (with_reducible refine Fork.T (fun hc => ?_) ?_); (exfalso; first | omega | (simp [eqC, cellsI, idv, idl] at hc; first | done | omega) | contradiction) | (with_reducible refine Fork.F (fun hc => ?_) ?_); (exfalso; first | omega | (simp [eqC, cellsI, idv, idl] at hc; first | done | omega) | contradiction) | (with_reducible refine Owe.mk ?_ ?_); (first | omega | (unfold most; omega) | decide +kernel | exact Nat.le_of_ble_eq_true rfl | assumption | (simp [most]; omega)) | (with_reducible intro z hz); (first | (replace hz := hz (by omega); subst hz) | subst hz)); (try (conv => whnf))))
   refine CallB.mk ([.imm (.bool true)]) ([.box 1 [.imm (.int .i64 (s).kind), .imm (.str (s).label)], .box 1 [.row 2 2], .row 27 8 2 (List.map uv ([] ++ u.all.filter (isS s)))]) (hB _ _ _ _ _ (hI)) ?_
   (try (conv => whnf)); (repeat ((first | (with_reducible refine Fork.T (fun hc => ?_) ?_); (exfalso; first | omega | (simp [eqC, cellsI, idv, idl] at hc; first | done | omega) | contradiction) | (with_reducible refine Fork.F (fun hc => ?_) ?_); (exfalso; first | omega | (simp [eqC, cellsI, idv, idl] at hc; first | done | omega) | contradiction) | (with_reducible refine Owe.mk ?_ ?_); (first | omega | (unfold most; omega) | decide +kernel | exact Nat.le_of_ble_eq_true rfl | assumption | (simp [most]; omega)) | (with_reducible intro z hz); (first | (replace hz := hz (by omega); subst hz) | subst hz)); (try (conv => whnf))))
   refine Imms.mk _ rfl ?_
   refine hfin _ ?_
   rw [if_neg (by simp)]
   exact ILes.refl _
end Go.Proofs.YtiohjjgncbhimaaDoor.Pa
namespace Go.Proofs.YtiohjjgncbhimaaDoor.Pa
open Go Go.Pv Go.Proofs.YtiohjjgncbhimaaDoor.Pu
set_option linter.unusedSimpArgs false
open Lab Lcs Go.Proofs.YtiohjjgncbhimaaDoor Go.RowKit
set_option maxRecDepth 10000
set_option maxHeartbeats 16000000
theorem kidsM_pc (l : List Ut) (s : Stp) (hc : Ut.counts l ≤ 100000000) : PC Tryd.prog envU 54 [.sl 8 (l.map uv), spv s] [.sl 8 ((kidsM l s).map uv)] := by
 have hml : (l.map uv).length = l.length := List.length_map _
 have hll := kids_counts l
 unfold spv spl
 refine PC.of_va (T := tb0) eqs2_ok tb_ok rfl mixed Tryd.func54 rfl rfl (Nat.le_of_ble_eq_true rfl) ?_; intro Γ C WK LP fin h0 hW hC hB hR hLP hfin
 (try (conv => whnf)); (repeat ((first | (with_reducible refine Fork.T (fun hc => ?_) ?_); (exfalso; first | omega | (simp [eqC, cellsI, idv, idl] at hc; first | done | omega) | contradiction) | (with_reducible refine Fork.F (fun hc => ?_) ?_); (exfalso; first | omega | (simp [eqC, cellsI, idv, idl] at hc; first | done | omega) | contradiction) | (with_reducible refine Owe.mk ?_ ?_); (first | omega | (unfold most; omega) | decide +kernel | exact Nat.le_of_ble_eq_true rfl | assumption | (simp [most]; omega)) | (with_reducible intro z hz); (first | (replace hz := hz (by omega); subst hz) | subst hz)); (try (conv => whnf))))
 refine hLP _ _ _ Nat (fun i => ⟨[(3, .ptr 0 1 0), (5, .row 1 1), (10, .imm (.sl 8 (l.map uv))), (11, .imm (.int .i64 (l.length : Nat))), (12, .imm (.int .i64 (i : Nat)))], [.box 1 [.imm (.int .i64 (s).kind), .imm (.str (s).label)], .row 27 8 1 ((List.map uv (kidsM (l.take i) s)).map .imm)]⟩) (fun i => i ≤ l.length) (fun i => l.length - i) 0 (Nat.zero_le _) ((WeakA.nilSlot 5 27 8 (Nat.le_of_ble_eq_true rfl) rfl).trans (((WeakA.row 1 (((kidsM (l.take 0) s).map uv).map .imm) rfl (by simp [kidsM]))).trans (WeakA.slots 2 (by first | omega | (rw [h0]; exact Nat.le_of_ble_eq_true rfl)) rfl rfl (by first | (simp only [List.all_cons, List.all_nil, blkBelow, belowL_imm, belowL, belowB, Bool.and_true, Bool.true_and]; first | done | decide) | rfl | simp [blkBelow, belowB, belowL, belowL_imm]) (by (repeat ((conv => whnf); first | exact trivial | refine And.intro (by first | exact WkOne.any | exact WkOne.eq (by with_reducible rfl) rfl | exact WkOne.int (by first | omega | (simp; first | done | omega)) | exact WkOne.eq rfl rfl | exact WkOne.le rfl (ILe.nil _)) ?_)))))) ?_
 intro i hi
 by_cases hlt : i < l.length
 · obtain ⟨x, hx⟩ := at_k hlt
   have hux := uv_eq x
   have hkl : (x.kids.map uv).length = x.kids.length := List.length_map _
   have hcm := counts_mem hx
   have hk1 := kidsM_counts s (l.take i)
   have hk2 := kids_counts (kidsM (l.take i) s)
   have hk3 := kids_counts x.kids
   have hxc := Ut.count_eq x
   (try (conv => whnf)); (repeat ((first | (with_reducible refine Fork.T (fun hc => ?_) ?_); (exfalso; first | omega | (simp [eqC, cellsI, idv, idl] at hc; first | done | omega) | contradiction) | (with_reducible refine Fork.F (fun hc => ?_) ?_); (exfalso; first | omega | (simp [eqC, cellsI, idv, idl] at hc; first | done | omega) | contradiction) | (with_reducible refine Owe.mk ?_ ?_); (first | omega | (unfold most; omega) | decide +kernel | exact Nat.le_of_ble_eq_true rfl | assumption | (simp [most]; omega)) | (with_reducible intro z hz); (first | (replace hz := hz (by omega); subst hz) | subst hz)); (try (conv => whnf))))
   refine Idx.mk i (uv x) _ rfl (by simp [hx]) (by rw [hux]; try rfl) ?_
   (try (conv => whnf)); (repeat ((first | (with_reducible refine Fork.T (fun hc => ?_) ?_); (exfalso; first | omega | (simp [eqC, cellsI, idv, idl] at hc; first | done | omega) | contradiction) | (with_reducible refine Fork.F (fun hc => ?_) ?_); (exfalso; first | omega | (simp [eqC, cellsI, idv, idl] at hc; first | done | omega) | contradiction) | (with_reducible refine Owe.mk ?_ ?_); (first | omega | (unfold most; omega) | decide +kernel | exact Nat.le_of_ble_eq_true rfl | assumption | (simp [most]; omega)) | (with_reducible intro z hz); (first | (replace hz := hz (by omega); subst hz) | subst hz)); (try (conv => whnf))))
   refine hLP _ _ _ Nat (fun j => ⟨[(3, .ptr 0 1 0), (5, .row 1 1), (10, .imm (.sl 8 (l.map uv))), (11, .imm (.int .i64 (l.length : Nat))), (12, .imm (.int .i64 (i : Nat))), (17, .imm (.sl 8 (x.kids.map uv))), (18, .imm (.int .i64 (x.kids.length : Nat))), (19, .imm (.int .i64 (j : Nat)))], [.box 1 [.imm (.int .i64 (s).kind), .imm (.str (s).label)], .row 27 8 1 ((List.map uv (kidsM (l.take i) s ++ (x.kids.take j).filter (isS s))).map .imm)]⟩) (fun j => j ≤ x.kids.length) (fun j => x.kids.length - j) 0 (Nat.zero_le _) (((WeakA.row 1 (((kidsM (l.take i) s ++ (x.kids.take 0).filter (isS s)).map uv).map .imm) rfl (by simp))).trans (WeakA.slots 2 (by first | omega | (rw [h0]; exact Nat.le_of_ble_eq_true rfl)) rfl rfl (by first | (simp only [List.all_cons, List.all_nil, blkBelow, belowL_imm, belowL, belowB, Bool.and_true, Bool.true_and]; first | done | decide) | rfl | simp [blkBelow, belowB, belowL, belowL_imm]) (by (repeat ((conv => whnf); first | exact trivial | refine And.intro (by first | exact WkOne.any | exact WkOne.eq (by with_reducible rfl) rfl | exact WkOne.int (by first | omega | (simp; first | done | omega)) | exact WkOne.eq rfl rfl | exact WkOne.le rfl (ILe.nil _)) ?_))))) ?_
   intro j hj
   by_cases hltj : j < x.kids.length
   · obtain ⟨y, hy⟩ := at_k hltj
     have huy := uv_eq y
     have hS := stepOf_pc y
     have hfl := fil_len s (x.kids.take j)
     have hfl2 : (x.kids.take j).length = j := by simp; omega
     have hrl : (((kidsM (l.take i) s ++ (x.kids.take j).filter (isS s)).map uv).map PV.imm).length = (kidsM (l.take i) s).length + ((x.kids.take j).filter (isS s)).length := by simp
     have hfs := fil_step (s := s) hy
     rw [huy] at hS
     by_cases h : ustep y = s
     · have hi : eqC [.int .i64 y.kind, .str y.label] [.int .i64 s.kind, .str s.label] = true := step_eq (a := ustep y) h
       rw [if_pos (show isS s y = true by simp [isS, h])] at hfs
       (try (conv => whnf)); (repeat ((first | (with_reducible refine Fork.T (fun hc => ?_) ?_); (exfalso; first | omega | (simp [eqC, cellsI, idv, idl] at hc; first | done | omega) | contradiction) | (with_reducible refine Fork.F (fun hc => ?_) ?_); (exfalso; first | omega | (simp [eqC, cellsI, idv, idl] at hc; first | done | omega) | contradiction) | (with_reducible refine Owe.mk ?_ ?_); (first | omega | (unfold most; omega) | decide +kernel | exact Nat.le_of_ble_eq_true rfl | assumption | (simp [most]; omega)) | (with_reducible intro z hz); (first | (replace hz := hz (by omega); subst hz) | subst hz)); (try (conv => whnf))))
       refine Idx.mk j (uv y) _ rfl (by simp [hy]) (by rw [huy]; try rfl) ?_
       (try (conv => whnf)); (repeat ((first | (with_reducible refine Fork.T (fun hc => ?_) ?_); (exfalso; first | omega | (simp [eqC, cellsI, idv, idl] at hc; first | done | omega) | contradiction) | (with_reducible refine Fork.F (fun hc => ?_) ?_); (exfalso; first | omega | (simp [eqC, cellsI, idv, idl] at hc; first | done | omega) | contradiction) | (with_reducible refine Owe.mk ?_ ?_); (first | omega | (unfold most; omega) | decide +kernel | exact Nat.le_of_ble_eq_true rfl | assumption | (simp [most]; omega)) | (with_reducible intro z hz); (first | (replace hz := hz (by omega); subst hz) | subst hz)); (try (conv => whnf))))
       refine CallV.mk _ (hC _ _ _ (PCw.of (hS))) (fun js hjs => ?_); subst hjs
       (try (conv => whnf)); (repeat ((first | (with_reducible refine Fork.T (fun hc => ?_) ?_); (exfalso; first | omega | (simp [eqC, cellsI, idv, idl] at hc; first | done | omega) | contradiction) | (with_reducible refine Fork.F (fun hc => ?_) ?_); (exfalso; first | omega | (simp [eqC, cellsI, idv, idl] at hc; first | done | omega) | contradiction) | (with_reducible refine Owe.mk ?_ ?_); (first | omega | (unfold most; omega) | decide +kernel | exact Nat.le_of_ble_eq_true rfl | assumption | (simp [most]; omega)) | (with_reducible intro z hz); (first | (replace hz := hz (by omega); subst hz) | subst hz)); (try (conv => whnf))))
       exact ⟨j + 1, by omega, by dsimp only; omega, ((WeakA.row 1 (((kidsM (l.take i) s ++ (x.kids.take (j + 1)).filter (isS s)).map uv).map .imm) rfl (by rw [hfs, ← List.append_assoc, List.map_append (l₁ := _ ++ _), List.map_append (l₁ := List.map uv _), List.map_cons, huy]; rfl))).trans ((WeakA.renew 1 1 rfl (by first | omega | (intro _; rw [hk0 _ _ rfl]; exact Nat.le_of_ble_eq_true rfl)) (by repeat (first | exact trivial | refine And.intro (rgL_imms _ _ _ _) ?_ | refine And.intro rfl ?_))).trans (WeakA.slots 2 (by first | omega | (rw [h0]; exact Nat.le_of_ble_eq_true rfl)) rfl rfl (by first | (simp only [List.all_cons, List.all_nil, blkBelow, belowL_imm, belowL, belowB, Bool.and_true, Bool.true_and]; first | done | decide) | rfl | simp [blkBelow, belowB, belowL, belowL_imm]) (by (repeat ((conv => whnf); first | exact trivial | refine And.intro (by first | exact WkOne.any | exact WkOne.eq (by with_reducible rfl) rfl | exact WkOne.int (by first | omega | (simp; first | done | omega)) | exact WkOne.eq rfl rfl | exact WkOne.le rfl (ILe.nil _)) ?_)))))⟩
     · have hi : ¬ eqC [.int .i64 y.kind, .str y.label] [.int .i64 s.kind, .str s.label] = true := step_ne (a := ustep y) h
       rw [if_neg (show ¬ isS s y = true by simp [isS, h])] at hfs
       (try (conv => whnf)); (repeat ((first | (with_reducible refine Fork.T (fun hc => ?_) ?_); (exfalso; first | omega | (simp [eqC, cellsI, idv, idl] at hc; first | done | omega) | contradiction) | (with_reducible refine Fork.F (fun hc => ?_) ?_); (exfalso; first | omega | (simp [eqC, cellsI, idv, idl] at hc; first | done | omega) | contradiction) | (with_reducible refine Owe.mk ?_ ?_); (first | omega | (unfold most; omega) | decide +kernel | exact Nat.le_of_ble_eq_true rfl | assumption | (simp [most]; omega)) | (with_reducible intro z hz); (first | (replace hz := hz (by omega); subst hz) | subst hz)); (try (conv => whnf))))
       refine Idx.mk j (uv y) _ rfl (by simp [hy]) (by rw [huy]; try rfl) ?_
       (try (conv => whnf)); (repeat ((first | (with_reducible refine Fork.T (fun hc => ?_) ?_); (exfalso; first | omega | (simp [eqC, cellsI, idv, idl] at hc; first | done | omega) | contradiction) | (with_reducible refine Fork.F (fun hc => ?_) ?_); (exfalso; first | omega | (simp [eqC, cellsI, idv, idl] at hc; first | done | omega) | contradiction) | (with_reducible refine Owe.mk ?_ ?_); (first | omega | (unfold most; omega) | decide +kernel | exact Nat.le_of_ble_eq_true rfl | assumption | (simp [most]; omega)) | (with_reducible intro z hz); (first | (replace hz := hz (by omega); subst hz) | subst hz)); (try (conv => whnf))))
       refine CallV.mk _ (hC _ _ _ (PCw.of (hS))) (fun js hjs => ?_); subst hjs
       (try (conv => whnf)); (repeat ((first | (with_reducible refine Fork.T (fun hc => ?_) ?_); (exfalso; first | omega | (simp [eqC, cellsI, idv, idl] at hc; first | done | omega) | contradiction) | (with_reducible refine Fork.F (fun hc => ?_) ?_); (exfalso; first | omega | (simp [eqC, cellsI, idv, idl] at hc; first | done | omega) | contradiction) | (with_reducible refine Owe.mk ?_ ?_); (first | omega | (unfold most; omega) | decide +kernel | exact Nat.le_of_ble_eq_true rfl | assumption | (simp [most]; omega)) | (with_reducible intro z hz); (first | (replace hz := hz (by omega); subst hz) | subst hz)); (try (conv => whnf))))
       exact ⟨j + 1, by omega, by dsimp only; omega, ((WeakA.row 1 (((kidsM (l.take i) s ++ (x.kids.take (j + 1)).filter (isS s)).map uv).map .imm) rfl (by rw [hfs]; simp))).trans (WeakA.slots 2 (by first | omega | (rw [h0]; exact Nat.le_of_ble_eq_true rfl)) rfl rfl (by first | (simp only [List.all_cons, List.all_nil, blkBelow, belowL_imm, belowL, belowB, Bool.and_true, Bool.true_and]; first | done | decide) | rfl | simp [blkBelow, belowB, belowL, belowL_imm]) (by (repeat ((conv => whnf); first | exact trivial | refine And.intro (by first | exact WkOne.any | exact WkOne.eq (by with_reducible rfl) rfl | exact WkOne.int (by first | omega | (simp; first | done | omega)) | exact WkOne.eq rfl rfl | exact WkOne.le rfl (ILe.nil _)) ?_))))⟩
   · (try (conv => whnf)); (repeat ((first | (with_reducible refine Fork.T (fun hc => ?_) ?_); (exfalso; first | omega | (simp [eqC, cellsI, idv, idl] at hc; first | done | omega) | contradiction) | (with_reducible refine Fork.F (fun hc => ?_) ?_); (exfalso; first | omega | (simp [eqC, cellsI, idv, idl] at hc; first | done | omega) | contradiction) | (with_reducible refine Owe.mk ?_ ?_); (first | omega | (unfold most; omega) | decide +kernel | exact Nat.le_of_ble_eq_true rfl | assumption | (simp [most]; omega)) | (with_reducible intro z hz); (first | (replace hz := hz (by omega); subst hz) | subst hz)); (try (conv => whnf))))
     obtain rfl : j = x.kids.length := by omega
     exact ⟨i + 1, by omega, by dsimp only; omega, ((WeakA.row 1 (((kidsM (l.take (i + 1)) s).map uv).map .imm) rfl (by rw [kidsM_step hx, List.take_length]))).trans (WeakA.slots 2 (by first | omega | (rw [h0]; exact Nat.le_of_ble_eq_true rfl)) rfl rfl (by first | (simp only [List.all_cons, List.all_nil, blkBelow, belowL_imm, belowL, belowB, Bool.and_true, Bool.true_and]; first | done | decide) | rfl | simp [blkBelow, belowB, belowL, belowL_imm]) (by (repeat ((conv => whnf); first | exact trivial | refine And.intro (by first | exact WkOne.any | exact WkOne.eq (by with_reducible rfl) rfl | exact WkOne.int (by first | omega | (simp; first | done | omega)) | exact WkOne.eq rfl rfl | exact WkOne.le rfl (ILe.nil _)) ?_))))⟩
 · (try (conv => whnf)); (repeat ((first | (with_reducible refine Fork.T (fun hc => ?_) ?_); (exfalso; first | omega | (simp [eqC, cellsI, idv, idl] at hc; first | done | omega) | contradiction) | (with_reducible refine Fork.F (fun hc => ?_) ?_); (exfalso; first | omega | (simp [eqC, cellsI, idv, idl] at hc; first | done | omega) | contradiction) | (with_reducible refine Owe.mk ?_ ?_); (first | omega | (unfold most; omega) | decide +kernel | exact Nat.le_of_ble_eq_true rfl | assumption | (simp [most]; omega)) | (with_reducible intro z hz); (first | (replace hz := hz (by omega); subst hz) | subst hz)); (try (conv => whnf))))
   obtain rfl : i = l.length := by omega
   refine Imms.mk ((kidsM l s).map uv) (by rw [List.take_length]) ?_
   exact hfin _ (ILes.refl _)
end Go.Proofs.YtiohjjgncbhimaaDoor.Pa
namespace Go.Proofs.YtiohjjgncbhimaaDoor.Pa
open Go Go.Pv Go.Proofs.YtiohjjgncbhimaaDoor.Pu
set_option linter.unusedSimpArgs false
open Lab Lcs Go.Proofs.YtiohjjgncbhimaaDoor Go.RowKit
set_option maxRecDepth 10000
set_option maxHeartbeats 16000000
theorem matches_pc (u : Ut) (p : List Stp) (hc : u.count ≤ 10000) (hp : ∀ s ∈ p, shortS s) : PC Tryd.prog envU 35 [uv u, .sl 2 (p.map spv)] [.sl 8 ((unitsM u p).map uv)] := by
 have hV := avalid_pc p hp
 have hml : (p.map spv).length = p.length := List.length_map _
 have hue := uv_eq u
 unfold unitsM
 cases hb : mayA p with
 | false =>
   rw [hb] at hV
   rw [hue, if_neg (by simp)]
   refine PC.of_va (T := tb0) eqs2_ok tb_ok rfl mixed Tryd.func35 rfl rfl (Nat.le_of_ble_eq_true rfl) ?_; intro Γ C WK LP fin h0 hW hC hB hR hLP hfin
   (try (conv => whnf)); (repeat ((first | (with_reducible refine Fork.T (fun hc => ?_) ?_); (exfalso; first | omega | (simp [eqC, cellsI, idv, idl] at hc; first | done | omega) | contradiction) | (with_reducible refine Fork.F (fun hc => ?_) ?_); (exfalso; first | omega | (simp [eqC, cellsI, idv, idl] at hc; first | done | omega) | contradiction) | (with_reducible refine Owe.mk ?_ ?_); (first | omega | (unfold most; omega) | decide +kernel | exact Nat.le_of_ble_eq_true rfl | assumption | (simp [most]; omega)) | (with_reducible intro z hz); (first | (replace hz := hz (by omega); subst hz) | subst hz)); (try (conv => whnf))))
   refine CallV.mk _ (hC _ _ _ (PCw.of (hV))) (fun js hjs => ?_); subst hjs
   (try (conv => whnf)); (repeat ((first | (with_reducible refine Fork.T (fun hc => ?_) ?_); (exfalso; first | omega | (simp [eqC, cellsI, idv, idl] at hc; first | done | omega) | contradiction) | (with_reducible refine Fork.F (fun hc => ?_) ?_); (exfalso; first | omega | (simp [eqC, cellsI, idv, idl] at hc; first | done | omega) | contradiction) | (with_reducible refine Owe.mk ?_ ?_); (first | omega | (unfold most; omega) | decide +kernel | exact Nat.le_of_ble_eq_true rfl | assumption | (simp [most]; omega)) | (with_reducible intro z hz); (first | (replace hz := hz (by omega); subst hz) | subst hz)); (try (conv => whnf))))
   exact hfin _ ⟨_, _, rfl, ILe.nil _, ILes.refl _⟩
 | true =>
   rw [hb] at hV
   rw [if_pos rfl]
   have hl9 := (mayA_iff.1 hb).1
   cases p with
   | nil =>
     rw [hue]
     refine PC.of_va (T := tb0) eqs2_ok tb_ok rfl mixed Tryd.func35 rfl rfl (Nat.le_of_ble_eq_true rfl) ?_; intro Γ C WK LP fin h0 hW hC hB hR hLP hfin
     (try (conv => whnf)); (repeat ((first | (with_reducible refine Fork.T (fun hc => ?_) ?_); (exfalso; first | omega | (simp [eqC, cellsI, idv, idl] at hc; first | done | omega) | contradiction) | (with_reducible refine Fork.F (fun hc => ?_) ?_); (exfalso; first | omega | (simp [eqC, cellsI, idv, idl] at hc; first | done | omega) | contradiction) | (with_reducible refine Owe.mk ?_ ?_); (first | omega | (unfold most; omega) | decide +kernel | exact Nat.le_of_ble_eq_true rfl | assumption | (simp [most]; omega)) | (with_reducible intro z hz); (first | (replace hz := hz (by omega); subst hz) | subst hz)); (try (conv => whnf))))
     refine CallV.mk _ (hC _ _ _ (PCw.of (hV))) (fun js hjs => ?_); subst hjs
     (try (conv => whnf)); (repeat ((first | (with_reducible refine Fork.T (fun hc => ?_) ?_); (exfalso; first | omega | (simp [eqC, cellsI, idv, idl] at hc; first | done | omega) | contradiction) | (with_reducible refine Fork.F (fun hc => ?_) ?_); (exfalso; first | omega | (simp [eqC, cellsI, idv, idl] at hc; first | done | omega) | contradiction) | (with_reducible refine Owe.mk ?_ ?_); (first | omega | (unfold most; omega) | decide +kernel | exact Nat.le_of_ble_eq_true rfl | assumption | (simp [most]; omega)) | (with_reducible intro z hz); (first | (replace hz := hz (by omega); subst hz) | subst hz)); (try (conv => whnf))))
     refine Imms.mk [uv u] (by rw [hue]; rfl) ?_
     exact hfin _ (ILes.refl _)
   | cons s r =>
     have hF := firstM_pc u s hc
     have hfc := firstM_counts s hc
     have hrl : r.length ≤ 9 := by simp only [List.length_cons] at hl9; omega
     have hmr : (r.map spv).length = r.length := List.length_map _
     simp only [List.map_cons, List.length_cons] at hml hV hV ⊢
     show PC _ _ _ _ [.sl 8 ((r.foldl kidsM (firstM u s)).map uv)]
     rw [hue] at hF ⊢
     refine PC.of_va (T := tb0) eqs2_ok tb_ok rfl mixed Tryd.func35 rfl rfl (Nat.le_of_ble_eq_true rfl) ?_; intro Γ C WK LP fin h0 hW hC hB hR hLP hfin
     (try (conv => whnf)); (repeat ((first | (with_reducible refine Fork.T (fun hc => ?_) ?_); (exfalso; first | omega | (simp [eqC, cellsI, idv, idl] at hc; first | done | omega) | contradiction) | (with_reducible refine Fork.F (fun hc => ?_) ?_); (exfalso; first | omega | (simp [eqC, cellsI, idv, idl] at hc; first | done | omega) | contradiction) | (with_reducible refine Owe.mk ?_ ?_); (first | omega | (unfold most; omega) | decide +kernel | exact Nat.le_of_ble_eq_true rfl | assumption | (simp [most]; omega)) | (with_reducible intro z hz); (first | (replace hz := hz (by omega); subst hz) | subst hz)); (try (conv => whnf))))
     refine CallV.mk _ (hC _ _ _ (PCw.of (hV))) (fun js hjs => ?_); subst hjs
     (try (conv => whnf)); (repeat ((first | (with_reducible refine Fork.T (fun hc => ?_) ?_); (exfalso; first | omega | (simp [eqC, cellsI, idv, idl] at hc; first | done | omega) | contradiction) | (with_reducible refine Fork.F (fun hc => ?_) ?_); (exfalso; first | omega | (simp [eqC, cellsI, idv, idl] at hc; first | done | omega) | contradiction) | (with_reducible refine Owe.mk ?_ ?_); (first | omega | (unfold most; omega) | decide +kernel | exact Nat.le_of_ble_eq_true rfl | assumption | (simp [most]; omega)) | (with_reducible intro z hz); (first | (replace hz := hz (by omega); subst hz) | subst hz)); (try (conv => whnf))))
     refine Idx.mk 0 (spv s) _ rfl rfl rfl ?_
     (try (conv => whnf)); (repeat ((first | (with_reducible refine Fork.T (fun hc => ?_) ?_); (exfalso; first | omega | (simp [eqC, cellsI, idv, idl] at hc; first | done | omega) | contradiction) | (with_reducible refine Fork.F (fun hc => ?_) ?_); (exfalso; first | omega | (simp [eqC, cellsI, idv, idl] at hc; first | done | omega) | contradiction) | (with_reducible refine Owe.mk ?_ ?_); (first | omega | (unfold most; omega) | decide +kernel | exact Nat.le_of_ble_eq_true rfl | assumption | (simp [most]; omega)) | (with_reducible intro z hz); (first | (replace hz := hz (by omega); subst hz) | subst hz)); (try (conv => whnf))))
     refine CallV.mk _ (hC _ _ _ (PCw.of (hF))) (fun js hjs => ?_); subst hjs
     (try (conv => whnf)); (repeat ((first | (with_reducible refine Fork.T (fun hc => ?_) ?_); (exfalso; first | omega | (simp [eqC, cellsI, idv, idl] at hc; first | done | omega) | contradiction) | (with_reducible refine Fork.F (fun hc => ?_) ?_); (exfalso; first | omega | (simp [eqC, cellsI, idv, idl] at hc; first | done | omega) | contradiction) | (with_reducible refine Owe.mk ?_ ?_); (first | omega | (unfold most; omega) | decide +kernel | exact Nat.le_of_ble_eq_true rfl | assumption | (simp [most]; omega)) | (with_reducible intro z hz); (first | (replace hz := hz (by omega); subst hz) | subst hz)); (try (conv => whnf))))
     refine hLP _ _ _ Nat (fun k => ⟨[(5, .imm (.sl 8 (((r.take k).foldl kidsM (firstM u s)).map uv))), (22, .imm (.sl 2 (r.map spv))), (23, .imm (.int .i64 (r.length : Nat))), (24, .imm (.int .i64 (k : Nat)))], []⟩) (fun k => k ≤ r.length) (fun k => r.length - k) 0 (Nat.zero_le _) (WeakA.slots 0 (by first | omega | (rw [h0]; exact Nat.le_of_ble_eq_true rfl)) rfl rfl (by first | (simp only [List.all_cons, List.all_nil, blkBelow, belowL_imm, belowL, belowB, Bool.and_true, Bool.true_and]; first | done | decide) | rfl | simp [blkBelow, belowB, belowL, belowL_imm]) (by (repeat ((conv => whnf); first | exact trivial | refine And.intro (by first | exact WkOne.any | exact WkOne.eq (by with_reducible rfl) rfl | exact WkOne.int (by first | omega | (simp; first | done | omega)) | exact WkOne.eq rfl rfl | exact WkOne.le rfl (ILe.nil _)) ?_)))) ?_
     intro k hk
     by_cases hlt : k < r.length
     · obtain ⟨x, hx⟩ := at_k hlt
       have hK := kidsM_pc ((r.take k).foldl kidsM (firstM u s)) x (Nat.le_trans (fold_counts _ _) hfc)
       (try (conv => whnf)); (repeat ((first | (with_reducible refine Fork.T (fun hc => ?_) ?_); (exfalso; first | omega | (simp [eqC, cellsI, idv, idl] at hc; first | done | omega) | contradiction) | (with_reducible refine Fork.F (fun hc => ?_) ?_); (exfalso; first | omega | (simp [eqC, cellsI, idv, idl] at hc; first | done | omega) | contradiction) | (with_reducible refine Owe.mk ?_ ?_); (first | omega | (unfold most; omega) | decide +kernel | exact Nat.le_of_ble_eq_true rfl | assumption | (simp [most]; omega)) | (with_reducible intro z hz); (first | (replace hz := hz (by omega); subst hz) | subst hz)); (try (conv => whnf))))
       refine Idx.mk k (spv x) _ rfl (by simp [hx]) rfl ?_
       (try (conv => whnf)); (repeat ((first | (with_reducible refine Fork.T (fun hc => ?_) ?_); (exfalso; first | omega | (simp [eqC, cellsI, idv, idl] at hc; first | done | omega) | contradiction) | (with_reducible refine Fork.F (fun hc => ?_) ?_); (exfalso; first | omega | (simp [eqC, cellsI, idv, idl] at hc; first | done | omega) | contradiction) | (with_reducible refine Owe.mk ?_ ?_); (first | omega | (unfold most; omega) | decide +kernel | exact Nat.le_of_ble_eq_true rfl | assumption | (simp [most]; omega)) | (with_reducible intro z hz); (first | (replace hz := hz (by omega); subst hz) | subst hz)); (try (conv => whnf))))
       refine CallV.mk _ (hC _ _ _ (PCw.of (hK))) (fun js hjs => ?_); subst hjs
       (try (conv => whnf)); (repeat ((first | (with_reducible refine Fork.T (fun hc => ?_) ?_); (exfalso; first | omega | (simp [eqC, cellsI, idv, idl] at hc; first | done | omega) | contradiction) | (with_reducible refine Fork.F (fun hc => ?_) ?_); (exfalso; first | omega | (simp [eqC, cellsI, idv, idl] at hc; first | done | omega) | contradiction) | (with_reducible refine Owe.mk ?_ ?_); (first | omega | (unfold most; omega) | decide +kernel | exact Nat.le_of_ble_eq_true rfl | assumption | (simp [most]; omega)) | (with_reducible intro z hz); (first | (replace hz := hz (by omega); subst hz) | subst hz)); (try (conv => whnf))))
       exact ⟨k + 1, by omega, by dsimp only; omega, (WeakA.slots 0 (by first | omega | (rw [h0]; exact Nat.le_of_ble_eq_true rfl)) rfl rfl (by first | (simp only [List.all_cons, List.all_nil, blkBelow, belowL_imm, belowL, belowB, Bool.and_true, Bool.true_and]; first | done | decide) | rfl | simp [blkBelow, belowB, belowL, belowL_imm]) (by (repeat ((conv => whnf); first | exact trivial | refine And.intro (by first | exact WkOne.any | exact WkOne.eq (by with_reducible rfl) rfl | exact WkOne.eq (congrArg (fun z => PV.imm (IV.int IntKind.i64 z)) (by first | omega | (simp [List.take_add_one, hx]; done) | (simp [List.take_add_one, hx]; omega))) rfl | exact WkOne.eq (by first | (simp [List.take_add_one, hx]; done) | fail) rfl | exact WkOne.eq rfl rfl | exact WkOne.le rfl (ILe.nil _)) ?_))))⟩
     · (try (conv => whnf)); (repeat ((first | (with_reducible refine Fork.T (fun hc => ?_) ?_); (exfalso; first | omega | (simp [eqC, cellsI, idv, idl] at hc; first | done | omega) | contradiction) | (with_reducible refine Fork.F (fun hc => ?_) ?_); (exfalso; first | omega | (simp [eqC, cellsI, idv, idl] at hc; first | done | omega) | contradiction) | (with_reducible refine Owe.mk ?_ ?_); (first | omega | (unfold most; omega) | decide +kernel | exact Nat.le_of_ble_eq_true rfl | assumption | (simp [most]; omega)) | (with_reducible intro z hz); (first | (replace hz := hz (by omega); subst hz) | subst hz)); (try (conv => whnf))))
       obtain rfl : k = r.length := by omega
       rw [List.take_length]
       exact hfin _ (ILes.refl _)
theorem units_len {u : Ut} (p : List Stp) (h : u.count ≤ 10000) : (unitsM u p).length ≤ 100000000 := by
 unfold unitsM
 split
 · exact Nat.le_trans (kids_counts _) (units_counts p h)
 · simp
theorem findAll_pc (u : Ut) (p : List Stp) (hc : u.count ≤ 10000) (hp : ∀ s ∈ p, shortS s) : PC Tryd.prog envU 26 [uv u, .sl 2 (p.map spv)] [.sl 3 ((findA u p).map idv)] := by
 have hM := matches_pc u p hc hp
 have hul := units_len p hc
 have hue := uv_eq u
 unfold findA
 generalize unitsM u p = l at hM hul
 have hml : (l.map uv).length = l.length := List.length_map _
 rw [hue] at hM ⊢
 refine PC.of_va (T := tb0) eqs2_ok tb_ok rfl mixed Tryd.func26 rfl rfl (Nat.le_of_ble_eq_true rfl) ?_; intro Γ C WK LP fin h0 hW hC hB hR hLP hfin
 (try (conv => whnf)); (repeat ((first | (with_reducible refine Fork.T (fun hc => ?_) ?_); (exfalso; first | omega | (simp [eqC, cellsI, idv, idl] at hc; first | done | omega) | contradiction) | (with_reducible refine Fork.F (fun hc => ?_) ?_); (exfalso; first | omega | (simp [eqC, cellsI, idv, idl] at hc; first | done | omega) | contradiction) | (with_reducible refine Owe.mk ?_ ?_); (first | omega | (unfold most; omega) | decide +kernel | exact Nat.le_of_ble_eq_true rfl | assumption | (simp [most]; omega)) | (with_reducible intro z hz); (first | (replace hz := hz (by omega); subst hz) | subst hz)); (try (conv => whnf))))
 refine CallV.mk _ (hC _ _ _ (PCw.of (hM))) (fun js hjs => ?_); subst hjs
 (try (conv => whnf)); (repeat ((first | (with_reducible refine Fork.T (fun hc => ?_) ?_); (exfalso; first | omega | (simp [eqC, cellsI, idv, idl] at hc; first | done | omega) | contradiction) | (with_reducible refine Fork.F (fun hc => ?_) ?_); (exfalso; first | omega | (simp [eqC, cellsI, idv, idl] at hc; first | done | omega) | contradiction) | (with_reducible refine Owe.mk ?_ ?_); (first | omega | (unfold most; omega) | decide +kernel | exact Nat.le_of_ble_eq_true rfl | assumption | (simp [most]; omega)) | (with_reducible intro z hz); (first | (replace hz := hz (by omega); subst hz) | subst hz)); (try (conv => whnf))))
 refine hLP _ _ _ Nat (fun k => ⟨[(5, .row 2 1), (10, .imm (.sl 8 (l.map uv))), (11, .imm (.int .i64 (l.length : Nat))), (12, .imm (.int .i64 (k : Nat)))], [.box 1 [.imm (.int .i64 u.id.x), .imm (.int .i64 u.id.y), .imm (.int .i64 u.id.z), .imm (.int .i64 u.kind), .imm (.str u.label), .imm (.sl 4 (u.head.map wdv)), .imm (.sl 4 (u.words.map wdv)), .imm (.sl 8 (u.kids.map uv))], .dead 0, .row 23 3 1 ((List.map idv ((l.take k).map Ut.id)).map .imm)]⟩) (fun k => k ≤ l.length) (fun k => l.length - k) 0 (Nat.zero_le _) ((WeakA.nilSlot 5 23 3 (Nat.le_of_ble_eq_true rfl) rfl).trans (((WeakA.row 2 ((((l.take 0).map Ut.id).map idv).map .imm) rfl (by simp))).trans (WeakA.slots 3 (by first | omega | (rw [h0]; exact Nat.le_of_ble_eq_true rfl)) rfl rfl (by first | (simp only [List.all_cons, List.all_nil, blkBelow, belowL_imm, belowL, belowB, Bool.and_true, Bool.true_and]; first | done | decide) | rfl | simp [blkBelow, belowB, belowL, belowL_imm]) (by (repeat ((conv => whnf); first | exact trivial | refine And.intro (by first | exact WkOne.any | exact WkOne.eq (by with_reducible rfl) rfl | exact WkOne.int (by first | omega | (simp; first | done | omega)) | exact WkOne.eq rfl rfl | exact WkOne.le rfl (ILe.nil _)) ?_)))))) ?_
 intro k hk
 by_cases hlt : k < l.length
 · obtain ⟨x, hx⟩ := at_k hlt
   have hux := uv_eq x
   have hrl : ((((l.take k).map Ut.id).map idv).map PV.imm).length = k := by simp; omega
   (try (conv => whnf)); (repeat ((first | (with_reducible refine Fork.T (fun hc => ?_) ?_); (exfalso; first | omega | (simp [eqC, cellsI, idv, idl] at hc; first | done | omega) | contradiction) | (with_reducible refine Fork.F (fun hc => ?_) ?_); (exfalso; first | omega | (simp [eqC, cellsI, idv, idl] at hc; first | done | omega) | contradiction) | (with_reducible refine Owe.mk ?_ ?_); (first | omega | (unfold most; omega) | decide +kernel | exact Nat.le_of_ble_eq_true rfl | assumption | (simp [most]; omega)) | (with_reducible intro z hz); (first | (replace hz := hz (by omega); subst hz) | subst hz)); (try (conv => whnf))))
   refine Idx.mk k (uv x) _ rfl (by simp [hx]) (by rw [hux]; try rfl) ?_
   (try (conv => whnf)); (repeat ((first | (with_reducible refine Fork.T (fun hc => ?_) ?_); (exfalso; first | omega | (simp [eqC, cellsI, idv, idl] at hc; first | done | omega) | contradiction) | (with_reducible refine Fork.F (fun hc => ?_) ?_); (exfalso; first | omega | (simp [eqC, cellsI, idv, idl] at hc; first | done | omega) | contradiction) | (with_reducible refine Owe.mk ?_ ?_); (first | omega | (unfold most; omega) | decide +kernel | exact Nat.le_of_ble_eq_true rfl | assumption | (simp [most]; omega)) | (with_reducible intro z hz); (first | (replace hz := hz (by omega); subst hz) | subst hz)); (try (conv => whnf))))
   exact ⟨k + 1, by omega, by dsimp only; omega, ((WeakA.row 2 ((((l.take (k + 1)).map Ut.id).map idv).map .imm) rfl (by rw [take_one hx]; simp [idv, idl]))).trans ((WeakA.renew 2 1 rfl (by first | omega | (intro _; rw [hk0 _ _ rfl]; exact Nat.le_of_ble_eq_true rfl)) (by repeat (first | exact trivial | refine And.intro (rgL_imms _ _ _ _) ?_ | refine And.intro rfl ?_))).trans (WeakA.slots 3 (by first | omega | (rw [h0]; exact Nat.le_of_ble_eq_true rfl)) rfl rfl (by first | (simp only [List.all_cons, List.all_nil, blkBelow, belowL_imm, belowL, belowB, Bool.and_true, Bool.true_and]; first | done | decide) | rfl | simp [blkBelow, belowB, belowL, belowL_imm]) (by (repeat ((conv => whnf); first | exact trivial | refine And.intro (by first | exact WkOne.any | exact WkOne.eq (by with_reducible rfl) rfl | exact WkOne.int (by first | omega | (simp; first | done | omega)) | exact WkOne.eq rfl rfl | exact WkOne.le rfl (ILe.nil _)) ?_)))))⟩
 · (try (conv => whnf)); (repeat ((first | (with_reducible refine Fork.T (fun hc => ?_) ?_); (exfalso; first | omega | (simp [eqC, cellsI, idv, idl] at hc; first | done | omega) | contradiction) | (with_reducible refine Fork.F (fun hc => ?_) ?_); (exfalso; first | omega | (simp [eqC, cellsI, idv, idl] at hc; first | done | omega) | contradiction) | (with_reducible refine Owe.mk ?_ ?_); (first | omega | (unfold most; omega) | decide +kernel | exact Nat.le_of_ble_eq_true rfl | assumption | (simp [most]; omega)) | (with_reducible intro z hz); (first | (replace hz := hz (by omega); subst hz) | subst hz)); (try (conv => whnf))))
   obtain rfl : k = l.length := by omega
   refine Imms.mk ((l.map Ut.id).map idv) (by rw [List.take_length]) ?_
   exact hfin _ (ILes.refl _)
theorem findOne_pc (u : Ut) (p : List Stp) (hc : u.count ≤ 10000) (hp : ∀ s ∈ p, shortS s) : PC Tryd.prog envU 25 [uv u, .sl 2 (p.map spv)] [idv (oneA u p).1, .int .i64 (oneA u p).2] := by
 have hM := findAll_pc u p hc hp
 have hue := uv_eq u
 unfold oneA
 cases hl : findA u p with
 | nil =>
   rw [hl] at hM
   rw [hue] at hM ⊢
   refine PC.of_va (T := tb0) eqs2_ok tb_ok rfl mixed Tryd.func25 rfl rfl (Nat.le_of_ble_eq_true rfl) ?_; intro Γ C WK LP fin h0 hW hC hB hR hLP hfin
   (try (conv => whnf)); (repeat ((first | (with_reducible refine Fork.T (fun hc => ?_) ?_); (exfalso; first | omega | (simp [eqC, cellsI, idv, idl] at hc; first | done | omega) | contradiction) | (with_reducible refine Fork.F (fun hc => ?_) ?_); (exfalso; first | omega | (simp [eqC, cellsI, idv, idl] at hc; first | done | omega) | contradiction) | (with_reducible refine Owe.mk ?_ ?_); (first | omega | (unfold most; omega) | decide +kernel | exact Nat.le_of_ble_eq_true rfl | assumption | (simp [most]; omega)) | (with_reducible intro z hz); (first | (replace hz := hz (by omega); subst hz) | subst hz)); (try (conv => whnf))))
   refine CallV.mk _ (hC _ _ _ (PCw.of (hM))) (fun js hjs => ?_); subst hjs
   (try (conv => whnf)); (repeat ((first | (with_reducible refine Fork.T (fun hc => ?_) ?_); (exfalso; first | omega | (simp [eqC, cellsI, idv, idl] at hc; first | done | omega) | contradiction) | (with_reducible refine Fork.F (fun hc => ?_) ?_); (exfalso; first | omega | (simp [eqC, cellsI, idv, idl] at hc; first | done | omega) | contradiction) | (with_reducible refine Owe.mk ?_ ?_); (first | omega | (unfold most; omega) | decide +kernel | exact Nat.le_of_ble_eq_true rfl | assumption | (simp [most]; omega)) | (with_reducible intro z hz); (first | (replace hz := hz (by omega); subst hz) | subst hz)); (try (conv => whnf))))
   exact hfin _ (ILes.refl _)
 | cons t r =>
   cases r with
   | nil =>
     rw [hl] at hM
     have hml : (List.map idv [t]).length = 1 := rfl
     rw [hue] at hM ⊢
     refine PC.of_va (T := tb0) eqs2_ok tb_ok rfl mixed Tryd.func25 rfl rfl (Nat.le_of_ble_eq_true rfl) ?_; intro Γ C WK LP fin h0 hW hC hB hR hLP hfin
     (try (conv => whnf)); (repeat ((first | (with_reducible refine Fork.T (fun hc => ?_) ?_); (exfalso; first | omega | (simp [eqC, cellsI, idv, idl] at hc; first | done | omega) | contradiction) | (with_reducible refine Fork.F (fun hc => ?_) ?_); (exfalso; first | omega | (simp [eqC, cellsI, idv, idl] at hc; first | done | omega) | contradiction) | (with_reducible refine Owe.mk ?_ ?_); (first | omega | (unfold most; omega) | decide +kernel | exact Nat.le_of_ble_eq_true rfl | assumption | (simp [most]; omega)) | (with_reducible intro z hz); (first | (replace hz := hz (by omega); subst hz) | subst hz)); (try (conv => whnf))))
     refine CallV.mk _ (hC _ _ _ (PCw.of (hM))) (fun js hjs => ?_); subst hjs
     (try (conv => whnf)); (repeat ((first | (with_reducible refine Fork.T (fun hc => ?_) ?_); (exfalso; first | omega | (simp [eqC, cellsI, idv, idl] at hc; first | done | omega) | contradiction) | (with_reducible refine Fork.F (fun hc => ?_) ?_); (exfalso; first | omega | (simp [eqC, cellsI, idv, idl] at hc; first | done | omega) | contradiction) | (with_reducible refine Owe.mk ?_ ?_); (first | omega | (unfold most; omega) | decide +kernel | exact Nat.le_of_ble_eq_true rfl | assumption | (simp [most]; omega)) | (with_reducible intro z hz); (first | (replace hz := hz (by omega); subst hz) | subst hz)); (try (conv => whnf))))
     refine Idx.mk 0 (idv t) _ rfl rfl rfl ?_
     (try (conv => whnf)); (repeat ((first | (with_reducible refine Fork.T (fun hc => ?_) ?_); (exfalso; first | omega | (simp [eqC, cellsI, idv, idl] at hc; first | done | omega) | contradiction) | (with_reducible refine Fork.F (fun hc => ?_) ?_); (exfalso; first | omega | (simp [eqC, cellsI, idv, idl] at hc; first | done | omega) | contradiction) | (with_reducible refine Owe.mk ?_ ?_); (first | omega | (unfold most; omega) | decide +kernel | exact Nat.le_of_ble_eq_true rfl | assumption | (simp [most]; omega)) | (with_reducible intro z hz); (first | (replace hz := hz (by omega); subst hz) | subst hz)); (try (conv => whnf))))
     exact hfin _ (ILes.refl _)
   | cons t2 r =>
     rw [hl] at hM
     have hml : (List.map idv (t :: t2 :: r)).length = r.length + 2 := by simp
     rw [hue] at hM ⊢
     refine PC.of_va (T := tb0) eqs2_ok tb_ok rfl mixed Tryd.func25 rfl rfl (Nat.le_of_ble_eq_true rfl) ?_; intro Γ C WK LP fin h0 hW hC hB hR hLP hfin
     (try (conv => whnf)); (repeat ((first | (with_reducible refine Fork.T (fun hc => ?_) ?_); (exfalso; first | omega | (simp [eqC, cellsI, idv, idl] at hc; first | done | omega) | contradiction) | (with_reducible refine Fork.F (fun hc => ?_) ?_); (exfalso; first | omega | (simp [eqC, cellsI, idv, idl] at hc; first | done | omega) | contradiction) | (with_reducible refine Owe.mk ?_ ?_); (first | omega | (unfold most; omega) | decide +kernel | exact Nat.le_of_ble_eq_true rfl | assumption | (simp [most]; omega)) | (with_reducible intro z hz); (first | (replace hz := hz (by omega); subst hz) | subst hz)); (try (conv => whnf))))
     refine CallV.mk _ (hC _ _ _ (PCw.of (hM))) (fun js hjs => ?_); subst hjs
     (try (conv => whnf)); (repeat ((first | (with_reducible refine Fork.T (fun hc => ?_) ?_); (exfalso; first | omega | (simp [eqC, cellsI, idv, idl] at hc; first | done | omega) | contradiction) | (with_reducible refine Fork.F (fun hc => ?_) ?_); (exfalso; first | omega | (simp [eqC, cellsI, idv, idl] at hc; first | done | omega) | contradiction) | (with_reducible refine Owe.mk ?_ ?_); (first | omega | (unfold most; omega) | decide +kernel | exact Nat.le_of_ble_eq_true rfl | assumption | (simp [most]; omega)) | (with_reducible intro z hz); (first | (replace hz := hz (by omega); subst hz) | subst hz)); (try (conv => whnf))))
     exact hfin _ (ILes.refl _)
end Go.Proofs.YtiohjjgncbhimaaDoor.Pa
namespace Go.Proofs.YtiohjjgncbhimaaDoor.Pa
open Go Go.Pv Go.Proofs.YtiohjjgncbhimaaDoor.Pu
set_option linter.unusedSimpArgs false
open Lab Lcs Go.Proofs.YtiohjjgncbhimaaDoor Go.RowKit
set_option maxRecDepth 10000
set_option maxHeartbeats 16000000
theorem ids7_pc (a b : List Trip) (ha : a.length ≤ 100000000) : PC Tryd.prog envU 12 [.sl 3 (a.map idv), .sl 3 (b.map idv)] [.bool (decide (a = b))] := by
 have h1 : (a.map idv).length = a.length := List.length_map _
 have h2 : (b.map idv).length = b.length := List.length_map _
 by_cases hl : a.length = b.length
 · refine PC.of_va (T := tb0) eqs2_ok tb_ok rfl mixed Tryd.func12 rfl rfl (Nat.le_of_ble_eq_true rfl) ?_; intro Γ C WK LP fin h0 hW hC hB hR hLP hfin
   (try (conv => whnf)); (repeat ((first | (with_reducible refine Fork.T (fun hc => ?_) ?_); (exfalso; first | omega | (simp [eqC, cellsI, idv, idl] at hc; first | done | omega) | contradiction) | (with_reducible refine Fork.F (fun hc => ?_) ?_); (exfalso; first | omega | (simp [eqC, cellsI, idv, idl] at hc; first | done | omega) | contradiction) | (with_reducible refine Owe.mk ?_ ?_); (first | omega | (unfold most; omega) | decide +kernel | exact Nat.le_of_ble_eq_true rfl | assumption | (simp [most]; omega)) | (with_reducible intro z hz); (first | (replace hz := hz (by omega); subst hz) | subst hz)); (try (conv => whnf))))
   refine hLP _ _ _ Nat (fun k => ⟨[(0, .imm (.sl 3 (a.map idv))), (1, .imm (.sl 3 (b.map idv))), (5, .imm (.int .i64 (k : Nat)))], []⟩) (fun k => k ≤ a.length ∧ a.take k = b.take k) (fun k => a.length - k) 0 ⟨Nat.zero_le _, rfl⟩ (WeakA.slots 0 (by first | omega | (rw [h0]; exact Nat.le_of_ble_eq_true rfl)) rfl rfl (by first | (simp only [List.all_cons, List.all_nil, blkBelow, belowL_imm, belowL, belowB, Bool.and_true, Bool.true_and]; first | done | decide) | rfl | simp [blkBelow, belowB, belowL, belowL_imm]) (by (repeat ((conv => whnf); first | exact trivial | refine And.intro (by first | exact WkOne.any | exact WkOne.eq (by with_reducible rfl) rfl | exact WkOne.int (by first | omega | (simp; first | done | omega)) | exact WkOne.eq rfl rfl | exact WkOne.le rfl (ILe.nil _)) ?_)))) ?_
   rintro k ⟨hk, hab⟩
   by_cases hlt : k < a.length
   · obtain ⟨x, hx⟩ := at_k hlt
     obtain ⟨y, hy⟩ := at_k (l := b) (k := k) (by omega)
     by_cases hxy : x = y
     · have hi : eqC [.int .i64 x.x, .int .i64 x.y, .int .i64 x.z] [.int .i64 y.x, .int .i64 y.y, .int .i64 y.z] = true := by subst hxy; simp [eqC]
       (try (conv => whnf)); (repeat ((first | (with_reducible refine Fork.T (fun hc => ?_) ?_); (exfalso; first | omega | (simp [eqC, cellsI, idv, idl] at hc; first | done | omega) | contradiction) | (with_reducible refine Fork.F (fun hc => ?_) ?_); (exfalso; first | omega | (simp [eqC, cellsI, idv, idl] at hc; first | done | omega) | contradiction) | (with_reducible refine Owe.mk ?_ ?_); (first | omega | (unfold most; omega) | decide +kernel | exact Nat.le_of_ble_eq_true rfl | assumption | (simp [most]; omega)) | (with_reducible intro z hz); (first | (replace hz := hz (by omega); subst hz) | subst hz)); (try (conv => whnf))))
       refine Idx.mk k (idv x) _ rfl (by simp [hx]) rfl ?_
       (try (conv => whnf)); (repeat ((first | (with_reducible refine Fork.T (fun hc => ?_) ?_); (exfalso; first | omega | (simp [eqC, cellsI, idv, idl] at hc; first | done | omega) | contradiction) | (with_reducible refine Fork.F (fun hc => ?_) ?_); (exfalso; first | omega | (simp [eqC, cellsI, idv, idl] at hc; first | done | omega) | contradiction) | (with_reducible refine Owe.mk ?_ ?_); (first | omega | (unfold most; omega) | decide +kernel | exact Nat.le_of_ble_eq_true rfl | assumption | (simp [most]; omega)) | (with_reducible intro z hz); (first | (replace hz := hz (by omega); subst hz) | subst hz)); (try (conv => whnf))))
       refine Idx.mk k (idv y) _ rfl (by simp [hy]) rfl ?_
       (try (conv => whnf)); (repeat ((first | (with_reducible refine Fork.T (fun hc => ?_) ?_); (exfalso; first | omega | (simp [eqC, cellsI, idv, idl] at hc; first | done | omega) | contradiction) | (with_reducible refine Fork.F (fun hc => ?_) ?_); (exfalso; first | omega | (simp [eqC, cellsI, idv, idl] at hc; first | done | omega) | contradiction) | (with_reducible refine Owe.mk ?_ ?_); (first | omega | (unfold most; omega) | decide +kernel | exact Nat.le_of_ble_eq_true rfl | assumption | (simp [most]; omega)) | (with_reducible intro z hz); (first | (replace hz := hz (by omega); subst hz) | subst hz)); (try (conv => whnf))))
       exact ⟨k + 1, ⟨by omega, by rw [List.take_add_one, List.take_add_one, hx, hy, hab, hxy]⟩, by dsimp only; omega, (WeakA.slots 0 (by first | omega | (rw [h0]; exact Nat.le_of_ble_eq_true rfl)) rfl rfl (by first | (simp only [List.all_cons, List.all_nil, blkBelow, belowL_imm, belowL, belowB, Bool.and_true, Bool.true_and]; first | done | decide) | rfl | simp [blkBelow, belowB, belowL, belowL_imm]) (by (repeat ((conv => whnf); first | exact trivial | refine And.intro (by first | exact WkOne.any | exact WkOne.eq (by with_reducible rfl) rfl | exact WkOne.int (by first | omega | (simp; first | done | omega)) | exact WkOne.eq rfl rfl | exact WkOne.le rfl (ILe.nil _)) ?_))))⟩
     · have hi : ¬ eqC [.int .i64 x.x, .int .i64 x.y, .int .i64 x.z] [.int .i64 y.x, .int .i64 y.y, .int .i64 y.z] = true := fun e => hxy (by cases x; cases y; simpa [eqC] using e)
       (try (conv => whnf)); (repeat ((first | (with_reducible refine Fork.T (fun hc => ?_) ?_); (exfalso; first | omega | (simp [eqC, cellsI, idv, idl] at hc; first | done | omega) | contradiction) | (with_reducible refine Fork.F (fun hc => ?_) ?_); (exfalso; first | omega | (simp [eqC, cellsI, idv, idl] at hc; first | done | omega) | contradiction) | (with_reducible refine Owe.mk ?_ ?_); (first | omega | (unfold most; omega) | decide +kernel | exact Nat.le_of_ble_eq_true rfl | assumption | (simp [most]; omega)) | (with_reducible intro z hz); (first | (replace hz := hz (by omega); subst hz) | subst hz)); (try (conv => whnf))))
       refine Idx.mk k (idv x) _ rfl (by simp [hx]) rfl ?_
       (try (conv => whnf)); (repeat ((first | (with_reducible refine Fork.T (fun hc => ?_) ?_); (exfalso; first | omega | (simp [eqC, cellsI, idv, idl] at hc; first | done | omega) | contradiction) | (with_reducible refine Fork.F (fun hc => ?_) ?_); (exfalso; first | omega | (simp [eqC, cellsI, idv, idl] at hc; first | done | omega) | contradiction) | (with_reducible refine Owe.mk ?_ ?_); (first | omega | (unfold most; omega) | decide +kernel | exact Nat.le_of_ble_eq_true rfl | assumption | (simp [most]; omega)) | (with_reducible intro z hz); (first | (replace hz := hz (by omega); subst hz) | subst hz)); (try (conv => whnf))))
       refine Idx.mk k (idv y) _ rfl (by simp [hy]) rfl ?_
       (try (conv => whnf)); (repeat ((first | (with_reducible refine Fork.T (fun hc => ?_) ?_); (exfalso; first | omega | (simp [eqC, cellsI, idv, idl] at hc; first | done | omega) | contradiction) | (with_reducible refine Fork.F (fun hc => ?_) ?_); (exfalso; first | omega | (simp [eqC, cellsI, idv, idl] at hc; first | done | omega) | contradiction) | (with_reducible refine Owe.mk ?_ ?_); (first | omega | (unfold most; omega) | decide +kernel | exact Nat.le_of_ble_eq_true rfl | assumption | (simp [most]; omega)) | (with_reducible intro z hz); (first | (replace hz := hz (by omega); subst hz) | subst hz)); (try (conv => whnf))))
       refine hfin _ ?_
       have : a ≠ b := fun e => by
         rw [e, hy] at hx
         exact hxy (Option.some.inj hx).symm
       rw [decide_eq_false this]
       exact ILes.refl _
   · (try (conv => whnf)); (repeat ((first | (with_reducible refine Fork.T (fun hc => ?_) ?_); (exfalso; first | omega | (simp [eqC, cellsI, idv, idl] at hc; first | done | omega) | contradiction) | (with_reducible refine Fork.F (fun hc => ?_) ?_); (exfalso; first | omega | (simp [eqC, cellsI, idv, idl] at hc; first | done | omega) | contradiction) | (with_reducible refine Owe.mk ?_ ?_); (first | omega | (unfold most; omega) | decide +kernel | exact Nat.le_of_ble_eq_true rfl | assumption | (simp [most]; omega)) | (with_reducible intro z hz); (first | (replace hz := hz (by omega); subst hz) | subst hz)); (try (conv => whnf))))
     obtain rfl : k = a.length := by omega
     rw [List.take_length, hl, List.take_length] at hab
     refine hfin _ ?_
     rw [decide_eq_true hab]
     exact ILes.refl _
 · refine PC.of_va (T := tb0) eqs2_ok tb_ok rfl mixed Tryd.func12 rfl rfl (Nat.le_of_ble_eq_true rfl) ?_; intro Γ C WK LP fin h0 hW hC hB hR hLP hfin
   (try (conv => whnf)); (repeat ((first | (with_reducible refine Fork.T (fun hc => ?_) ?_); (exfalso; first | omega | (simp [eqC, cellsI, idv, idl] at hc; first | done | omega) | contradiction) | (with_reducible refine Fork.F (fun hc => ?_) ?_); (exfalso; first | omega | (simp [eqC, cellsI, idv, idl] at hc; first | done | omega) | contradiction) | (with_reducible refine Owe.mk ?_ ?_); (first | omega | (unfold most; omega) | decide +kernel | exact Nat.le_of_ble_eq_true rfl | assumption | (simp [most]; omega)) | (with_reducible intro z hz); (first | (replace hz := hz (by omega); subst hz) | subst hz)); (try (conv => whnf))))
   refine hfin _ ?_
   have : a ≠ b := fun e => hl (by rw [e])
   rw [decide_eq_false this]
   exact ILes.refl _
end Go.Proofs.YtiohjjgncbhimaaDoor.Pa
