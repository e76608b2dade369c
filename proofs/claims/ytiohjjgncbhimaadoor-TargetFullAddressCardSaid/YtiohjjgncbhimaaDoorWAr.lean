/-
  The reference's Units, where the first step is the book's.
-/
import Derived.Test.YtiohjjgncbhimaaDoorWAz
namespace Go.Proofs.YtiohjjgncbhimaaDoor.Pa
open Go Go.Pv Go.Proofs.YtiohjjgncbhimaaDoor.Pu
set_option linter.unusedSimpArgs false
open Lab Lcs Go.Proofs.YtiohjjgncbhimaaDoor Go.RowKit
set_option maxRecDepth 10000
set_option maxHeartbeats 32000000
theorem units_book (u : Ut) (s : Stp) (r : List Stp) (hc : u.count ≤ 10000) (hp : ∀ t ∈ s :: r, shortS t) (hb : mayA (s :: r) = true) (hbb : bookB s = true) : PC Tryd.prog envU 27 [uv u, .sl 2 ((s :: r).map spv)] [.sl 8 ((r.foldl kidsM (firstM u s)).map uv)] := by
 have hV := rmay_pc (s :: r) hp
 have hue := uv_eq u
 rw [hb] at hV
 have hl9 := (mayA_iff.1 hb).1
 have hfc := firstM_counts s hc
 have hrl : r.length ≤ 9 := by simp only [List.length_cons] at hl9; omega
 have hmr : ((s :: r).map spv).length = r.length + 1 := by simp
 have hml : ((s :: r).map spv).length = (s :: r).length := List.length_map _
 have hE := (every_pcr u.count u (Nat.le_refl _) (by omega)).pc
 have hBk := rbook_pc s
 have hal : (u.all.map uv).length = u.count := by rw [List.length_map, all_length]
 have hal2 := all_length u
 rw [hue] at hE ⊢
 rw [hbb] at hBk
 have hf1 : firstM u s = [u] := by unfold firstM; rw [if_pos hbb]
 refine PC.of_va (T := tb0) eqs2_ok tb_ok rfl mixed Tryd.func27 rfl rfl (Nat.le_of_ble_eq_true rfl) ?_; intro Γ C WK LP fin h0 hW hC hB hR hLP hfin
 (try (conv => whnf)); (repeat ((first | (with_reducible refine Fork.T (fun hc => ?_) ?_); (exfalso; first | omega | (simp [eqC, cellsI, idv, idl] at hc; first | done | omega) | contradiction) | (with_reducible refine Fork.F (fun hc => ?_) ?_); (exfalso; first | omega | (simp [eqC, cellsI, idv, idl] at hc; first | done | omega) | contradiction) | (with_reducible refine Owe.mk ?_ ?_); (first | omega | (unfold most; omega) | decide +kernel | exact Nat.le_of_ble_eq_true rfl | assumption | (simp [most]; omega)) | (with_reducible intro z hz); (first | (replace hz := hz (by omega); subst hz) | subst hz)); (try (conv => whnf))))
 refine CallV.mk _ (hC _ _ _ (PCw.of (hV))) (fun js hjs => ?_); subst hjs
 (try (conv => whnf)); (repeat ((first | (with_reducible refine Fork.T (fun hc => ?_) ?_); (exfalso; first | omega | (simp [eqC, cellsI, idv, idl] at hc; first | done | omega) | contradiction) | (with_reducible refine Fork.F (fun hc => ?_) ?_); (exfalso; first | omega | (simp [eqC, cellsI, idv, idl] at hc; first | done | omega) | contradiction) | (with_reducible refine Owe.mk ?_ ?_); (first | omega | (unfold most; omega) | decide +kernel | exact Nat.le_of_ble_eq_true rfl | assumption | (simp [most]; omega)) | (with_reducible intro z hz); (first | (replace hz := hz (by omega); subst hz) | subst hz)); (try (conv => whnf))))
 refine Idx.mk 0 (spv s) _ rfl rfl rfl ?_
 (try (conv => whnf)); (repeat ((first | (with_reducible refine Fork.T (fun hc => ?_) ?_); (exfalso; first | omega | (simp [eqC, cellsI, idv, idl] at hc; first | done | omega) | contradiction) | (with_reducible refine Fork.F (fun hc => ?_) ?_); (exfalso; first | omega | (simp [eqC, cellsI, idv, idl] at hc; first | done | omega) | contradiction) | (with_reducible refine Owe.mk ?_ ?_); (first | omega | (unfold most; omega) | decide +kernel | exact Nat.le_of_ble_eq_true rfl | assumption | (simp [most]; omega)) | (with_reducible intro z hz); (first | (replace hz := hz (by omega); subst hz) | subst hz)); (try (conv => whnf))))
 refine CallV.mk _ (hC _ _ _ (PCw.of (hBk))) (fun js hjs => ?_); subst hjs
 (try (conv => whnf)); (repeat ((first | (with_reducible refine Fork.T (fun hc => ?_) ?_); (exfalso; first | omega | (simp [eqC, cellsI, idv, idl] at hc; first | done | omega) | contradiction) | (with_reducible refine Fork.F (fun hc => ?_) ?_); (exfalso; first | omega | (simp [eqC, cellsI, idv, idl] at hc; first | done | omega) | contradiction) | (with_reducible refine Owe.mk ?_ ?_); (first | omega | (unfold most; omega) | decide +kernel | exact Nat.le_of_ble_eq_true rfl | assumption | (simp [most]; omega)) | (with_reducible intro z hz); (first | (replace hz := hz (by omega); subst hz) | subst hz)); (try (conv => whnf))))
 have hcl : ∀ k, Ut.counts ((r.take k).foldl kidsM (firstM u s)) ≤ 100000000 := fun k => Nat.le_trans (fold_counts (r.take k) (firstM u s)) hfc
 clear hV hE hml hal hal2 hb hl9 hbb hBk hc hp
 refine hLP _ _ _ Nat (fun k => ⟨[(1, .imm (.sl 2 ((s :: r).map spv))), (5, .imm (.sl 8 (((r.take k).foldl kidsM (firstM u s)).map uv))), (8, .imm (.int .i64 ((k : Nat) + 1)))], []⟩) (fun k => k ≤ r.length) (fun k => r.length - k) 0 (Nat.zero_le _) (((WeakA.row 2 (((firstM u s).map uv).map .imm) rfl (by rw [hf1]; try simp [hue]))).trans ((WeakA.frozen 2 ((firstM u s).map uv) rfl (by first | rfl | simp) (ILe.refl _) (by repeat (first | exact trivial | refine And.intro (fzL_imm _ _ _ _) ?_ | refine And.intro rfl ?_))).trans (WeakA.slots 0 (by first | omega | (rw [h0]; exact Nat.le_of_ble_eq_true rfl)) rfl rfl (by first | (simp only [List.all_cons, List.all_nil, blkBelow, belowL_imm, belowL, belowB, Bool.and_true, Bool.true_and]; first | done | decide) | rfl | simp [blkBelow, belowB, belowL, belowL_imm]) (by (repeat ((conv => whnf); first | exact trivial | refine And.intro (by first | exact WkOne.any | exact WkOne.eq (by with_reducible rfl) rfl | exact WkOne.int (by first | omega | (simp; first | done | omega)) | exact WkOne.eq rfl rfl | exact WkOne.le rfl (ILe.nil _)) ?_)))))) ?_
 clear hfc hf1
 intro k hk
 by_cases hlt : k < r.length
 · obtain ⟨x, hx⟩ := at_k hlt
   have hcur := hcl k
   have hnx : (r.take (k + 1)).foldl kidsM (firstM u s) = kidsM ((r.take k).foldl kidsM (firstM u s)) x := by rw [List.take_add_one, hx]; simp
   have hpx : ((s :: r).map spv)[k + 1]? = some (spv x) := by simp [hx]
   generalize hcg : (r.take k).foldl kidsM (firstM u s) = cur at hcur hnx ⊢
   clear hcg hcl
   have hlc := kids_counts cur
   have hmc : (cur.map uv).length = cur.length := List.length_map _
   (try (conv => whnf)); (repeat ((first | (with_reducible refine Fork.T (fun hc => ?_) ?_); (exfalso; first | omega | (simp [eqC, cellsI, idv, idl] at hc; first | done | omega) | contradiction) | (with_reducible refine Fork.F (fun hc => ?_) ?_); (exfalso; first | omega | (simp [eqC, cellsI, idv, idl] at hc; first | done | omega) | contradiction) | (with_reducible refine Owe.mk ?_ ?_); (first | omega | (unfold most; omega) | decide +kernel | exact Nat.le_of_ble_eq_true rfl | assumption | (simp [most]; omega)) | (with_reducible intro z hz); (first | (replace hz := hz (by omega); subst hz) | subst hz)); (try (conv => whnf))))
   refine hLP _ _ _ Nat (fun i => ⟨[(1, .imm (.sl 2 ((s :: r).map spv))), (5, .imm (.sl 8 (cur.map uv))), (8, .imm (.int .i64 ((k : Nat) + 1))), (9, .row 0 1), (10, .imm (.int .i64 (i : Nat)))], [.row 27 8 1 ((List.map uv (kidsM (cur.take i) x)).map .imm)]⟩) (fun i => i ≤ cur.length) (fun i => cur.length - i) 0 (Nat.zero_le _) (((WeakA.row 0 (((kidsM (cur.take 0) x).map uv).map .imm) rfl (by simp [kidsM]))).trans (WeakA.slots 1 (by first | omega | (rw [h0]; exact Nat.le_of_ble_eq_true rfl)) rfl rfl (by first | (simp only [List.all_cons, List.all_nil, blkBelow, belowL_imm, belowL, belowB, Bool.and_true, Bool.true_and]; first | done | decide) | rfl | simp [blkBelow, belowB, belowL, belowL_imm]) (by (repeat ((conv => whnf); first | exact trivial | refine And.intro (by first | exact WkOne.any | exact WkOne.eq (by with_reducible rfl) rfl | exact WkOne.int (by first | omega | (simp; first | done | omega)) | exact WkOne.eq rfl rfl | exact WkOne.le rfl (ILe.nil _)) ?_))))) ?_
   intro i hi
   have hho := Nat.lt_or_ge i cur.length
   cases hho with
   | inl hlti =>
     have hhy := at_k hlti
     cases hhy with
     | intro y hy =>
     have huy := uv_eq y
     have hcm := counts_mem hy
     have hk1 := kidsM_counts x (cur.take i)
     have hk2 := kids_counts (kidsM (cur.take i) x)
     have hk3 := kids_counts y.kids
     have hyc := Ut.count_eq y
     have hbig : (kidsM (cur.take i) x).length + y.kids.length ≤ 100000000 := by omega
     have hmy : (y.kids.map uv).length = y.kids.length := List.length_map _
     have hst := kidsM_step (s := x) hy
     have hc8 : cur.length ≤ 100000000 := by omega
     clear hcm hk1 hk2 hk3 hyc hcur hlc hnx
     generalize kidsM (cur.take i) x = acc at hbig hst ⊢
     (try (conv => whnf)); (repeat ((first | (with_reducible refine Fork.T (fun hc => ?_) ?_); (exfalso; first | omega | (simp [eqC, cellsI, idv, idl] at hc; first | done | omega) | contradiction) | (with_reducible refine Fork.F (fun hc => ?_) ?_); (exfalso; first | omega | (simp [eqC, cellsI, idv, idl] at hc; first | done | omega) | contradiction) | (with_reducible refine Owe.mk ?_ ?_); (first | omega | (unfold most; omega) | decide +kernel | exact Nat.le_of_ble_eq_true rfl | assumption | (simp [most]; omega)) | (with_reducible intro z hz); (first | (replace hz := hz (by omega); subst hz) | subst hz)); (try (conv => whnf))))
     refine hLP _ _ _ Nat (fun j => ⟨[(1, .imm (.sl 2 ((s :: r).map spv))), (5, .imm (.sl 8 (cur.map uv))), (8, .imm (.int .i64 ((k : Nat) + 1))), (9, .row 0 1), (10, .imm (.int .i64 (i : Nat))), (11, .imm (.int .i64 (j : Nat)))], [.row 27 8 1 ((List.map uv (acc ++ (y.kids.take j).filter (isS x))).map .imm)]⟩) (fun j => j ≤ y.kids.length) (fun j => y.kids.length - j) 0 (Nat.zero_le _) (((WeakA.row 0 (((acc ++ (y.kids.take 0).filter (isS x)).map uv).map .imm) rfl (by simp))).trans (WeakA.slots 1 (by first | omega | (rw [h0]; exact Nat.le_of_ble_eq_true rfl)) rfl rfl (by first | (simp only [List.all_cons, List.all_nil, blkBelow, belowL_imm, belowL, belowB, Bool.and_true, Bool.true_and]; first | done | decide) | rfl | simp [blkBelow, belowB, belowL, belowL_imm]) (by (repeat ((conv => whnf); first | exact trivial | refine And.intro (by first | exact WkOne.any | exact WkOne.eq (by with_reducible rfl) rfl | exact WkOne.int (by first | omega | (simp; first | done | omega)) | exact WkOne.eq rfl rfl | exact WkOne.le rfl (ILe.nil _)) ?_))))) ?_
     intro j hj
     have hho := Nat.lt_or_ge j y.kids.length
     cases hho with
     | inl hltj =>
       have hhz := at_k hltj
       cases hhz with
       | intro z hz =>
       have huz := uv_eq z
       have hA := at_pc z x
       have hrl : (((acc ++ (y.kids.take j).filter (isS x)).map uv).map PV.imm).length ≤ 100000000 := by
         have hfl := fil_len x (y.kids.take j)
         have hfl2 : (y.kids.take j).length = j := by simp; omega
         simp only [List.length_map, List.length_append]
         omega
       have hrl2 : acc.length + ((y.kids.take j).filter (isS x)).length ≤ 100000000 := by
         have hfl := fil_len x (y.kids.take j)
         have hfl2 : (y.kids.take j).length = j := by simp; omega
         omega
       have hfs := fil_step (s := x) hz
       rw [huz] at hA
       change PC _ _ _ _ [.bool (isS x z)] at hA
       generalize hq : isS x z = b at hA hfs
       have hj8 : y.kids.length ≤ 100000000 := by omega
       clear hbig hst
       (try (conv => whnf)); (repeat ((first | (with_reducible refine Fork.T (fun hc => ?_) ?_); (exfalso; first | omega | (simp [eqC, cellsI, idv, idl] at hc; first | done | omega) | contradiction) | (with_reducible refine Fork.F (fun hc => ?_) ?_); (exfalso; first | omega | (simp [eqC, cellsI, idv, idl] at hc; first | done | omega) | contradiction) | (with_reducible refine Owe.mk ?_ ?_); (first | omega | (unfold most; omega) | decide +kernel | exact Nat.le_of_ble_eq_true rfl | assumption | (simp [most]; omega)) | (with_reducible intro z hz); (first | (replace hz := hz (by omega); subst hz) | subst hz)); (try (conv => whnf))))
       refine Idx.mk i (uv y) _ rfl (by simp [hy]) (by rw [huy]; try rfl) ?_
       (try (conv => whnf)); (repeat ((first | (with_reducible refine Fork.T (fun hc => ?_) ?_); (exfalso; first | omega | (simp [eqC, cellsI, idv, idl] at hc; first | done | omega) | contradiction) | (with_reducible refine Fork.F (fun hc => ?_) ?_); (exfalso; first | omega | (simp [eqC, cellsI, idv, idl] at hc; first | done | omega) | contradiction) | (with_reducible refine Owe.mk ?_ ?_); (first | omega | (unfold most; omega) | decide +kernel | exact Nat.le_of_ble_eq_true rfl | assumption | (simp [most]; omega)) | (with_reducible intro z hz); (first | (replace hz := hz (by omega); subst hz) | subst hz)); (try (conv => whnf))))
       refine Idx.mk i (uv y) _ rfl (by simp [hy]) (by rw [huy]; try rfl) ?_
       (try (conv => whnf)); (repeat ((first | (with_reducible refine Fork.T (fun hc => ?_) ?_); (exfalso; first | omega | (simp [eqC, cellsI, idv, idl] at hc; first | done | omega) | contradiction) | (with_reducible refine Fork.F (fun hc => ?_) ?_); (exfalso; first | omega | (simp [eqC, cellsI, idv, idl] at hc; first | done | omega) | contradiction) | (with_reducible refine Owe.mk ?_ ?_); (first | omega | (unfold most; omega) | decide +kernel | exact Nat.le_of_ble_eq_true rfl | assumption | (simp [most]; omega)) | (with_reducible intro z hz); (first | (replace hz := hz (by omega); subst hz) | subst hz)); (try (conv => whnf))))
       refine Idx.mk j (uv z) _ rfl (by simp [hz]) (by rw [huz]; try rfl) ?_
       (try (conv => whnf)); (repeat ((first | (with_reducible refine Fork.T (fun hc => ?_) ?_); (exfalso; first | omega | (simp [eqC, cellsI, idv, idl] at hc; first | done | omega) | contradiction) | (with_reducible refine Fork.F (fun hc => ?_) ?_); (exfalso; first | omega | (simp [eqC, cellsI, idv, idl] at hc; first | done | omega) | contradiction) | (with_reducible refine Owe.mk ?_ ?_); (first | omega | (unfold most; omega) | decide +kernel | exact Nat.le_of_ble_eq_true rfl | assumption | (simp [most]; omega)) | (with_reducible intro z hz); (first | (replace hz := hz (by omega); subst hz) | subst hz)); (try (conv => whnf))))
       refine Idx.mk (k + 1) (spv x) _ (by omega) hpx rfl ?_
       (try (conv => whnf)); (repeat ((first | (with_reducible refine Fork.T (fun hc => ?_) ?_); (exfalso; first | omega | (simp [eqC, cellsI, idv, idl] at hc; first | done | omega) | contradiction) | (with_reducible refine Fork.F (fun hc => ?_) ?_); (exfalso; first | omega | (simp [eqC, cellsI, idv, idl] at hc; first | done | omega) | contradiction) | (with_reducible refine Owe.mk ?_ ?_); (first | omega | (unfold most; omega) | decide +kernel | exact Nat.le_of_ble_eq_true rfl | assumption | (simp [most]; omega)) | (with_reducible intro z hz); (first | (replace hz := hz (by omega); subst hz) | subst hz)); (try (conv => whnf))))
       refine CallV.mkB (hC _ _ _ (PCw.of (hA))) (fun hbt => ?_) (fun hbt => ?_)
       · rw [hbt, if_pos rfl] at hfs
         (try (conv => whnf)); (repeat ((first | (with_reducible refine Fork.T (fun hc => ?_) ?_); (exfalso; first | omega | (simp [eqC, cellsI, idv, idl] at hc; first | done | omega) | contradiction) | (with_reducible refine Fork.F (fun hc => ?_) ?_); (exfalso; first | omega | (simp [eqC, cellsI, idv, idl] at hc; first | done | omega) | contradiction) | (with_reducible refine Owe.mk ?_ ?_); (first | omega | (unfold most; omega) | decide +kernel | exact Nat.le_of_ble_eq_true rfl | assumption | (simp [most]; omega)) | (with_reducible intro z hz); (first | (replace hz := hz (by omega); subst hz) | subst hz)); (try (conv => whnf))))
         refine Idx.mk i (uv y) _ rfl (by simp [hy]) (by rw [huy]; try rfl) ?_
         (try (conv => whnf)); (repeat ((first | (with_reducible refine Fork.T (fun hc => ?_) ?_); (exfalso; first | omega | (simp [eqC, cellsI, idv, idl] at hc; first | done | omega) | contradiction) | (with_reducible refine Fork.F (fun hc => ?_) ?_); (exfalso; first | omega | (simp [eqC, cellsI, idv, idl] at hc; first | done | omega) | contradiction) | (with_reducible refine Owe.mk ?_ ?_); (first | omega | (unfold most; omega) | decide +kernel | exact Nat.le_of_ble_eq_true rfl | assumption | (simp [most]; omega)) | (with_reducible intro z hz); (first | (replace hz := hz (by omega); subst hz) | subst hz)); (try (conv => whnf))))
         refine Idx.mk j (uv z) _ rfl (by simp [hz]) (by rw [huz]; try rfl) ?_
         (try (conv => whnf)); (repeat ((first | (with_reducible refine Fork.T (fun hc => ?_) ?_); (exfalso; first | omega | (simp [eqC, cellsI, idv, idl] at hc; first | done | omega) | contradiction) | (with_reducible refine Fork.F (fun hc => ?_) ?_); (exfalso; first | omega | (simp [eqC, cellsI, idv, idl] at hc; first | done | omega) | contradiction) | (with_reducible refine Owe.mk ?_ ?_); (first | omega | (unfold most; omega) | decide +kernel | exact Nat.le_of_ble_eq_true rfl | assumption | (simp [most]; omega)) | (with_reducible intro z hz); (first | (replace hz := hz (by omega); subst hz) | subst hz)); (try (conv => whnf))))
         exact ⟨j + 1, by omega, by dsimp only; omega, ((WeakA.row 0 (((acc ++ (y.kids.take (j + 1)).filter (isS x)).map uv).map .imm) rfl (by rw [hfs, ← List.append_assoc, List.map_append (l₁ := _ ++ _), List.map_append (l₁ := List.map uv _), List.map_cons, huz]; rfl))).trans ((WeakA.renew 0 1 rfl (by first | omega | (intro _; rw [hk0 _ _ rfl]; exact Nat.le_of_ble_eq_true rfl)) (by repeat (first | exact trivial | refine And.intro (rgL_imms _ _ _ _) ?_ | refine And.intro rfl ?_))).trans (WeakA.slots 1 (by first | omega | (rw [h0]; exact Nat.le_of_ble_eq_true rfl)) rfl rfl (by first | (simp only [List.all_cons, List.all_nil, blkBelow, belowL_imm, belowL, belowB, Bool.and_true, Bool.true_and]; first | done | decide) | rfl | simp [blkBelow, belowB, belowL, belowL_imm]) (by (repeat ((conv => whnf); first | exact trivial | refine And.intro (by first | exact WkOne.any | exact WkOne.eq (by with_reducible rfl) rfl | exact WkOne.int (by first | omega | (simp; first | done | omega)) | exact WkOne.eq rfl rfl | exact WkOne.le rfl (ILe.nil _)) ?_)))))⟩
       · rw [hbt, if_neg (by simp)] at hfs
         (try (conv => whnf)); (repeat ((first | (with_reducible refine Fork.T (fun hc => ?_) ?_); (exfalso; first | omega | (simp [eqC, cellsI, idv, idl] at hc; first | done | omega) | contradiction) | (with_reducible refine Fork.F (fun hc => ?_) ?_); (exfalso; first | omega | (simp [eqC, cellsI, idv, idl] at hc; first | done | omega) | contradiction) | (with_reducible refine Owe.mk ?_ ?_); (first | omega | (unfold most; omega) | decide +kernel | exact Nat.le_of_ble_eq_true rfl | assumption | (simp [most]; omega)) | (with_reducible intro z hz); (first | (replace hz := hz (by omega); subst hz) | subst hz)); (try (conv => whnf))))
         exact ⟨j + 1, by omega, by dsimp only; omega, ((WeakA.row 0 (((acc ++ (y.kids.take (j + 1)).filter (isS x)).map uv).map .imm) rfl (by rw [hfs]; simp))).trans (WeakA.slots 1 (by first | omega | (rw [h0]; exact Nat.le_of_ble_eq_true rfl)) rfl rfl (by first | (simp only [List.all_cons, List.all_nil, blkBelow, belowL_imm, belowL, belowB, Bool.and_true, Bool.true_and]; first | done | decide) | rfl | simp [blkBelow, belowB, belowL, belowL_imm]) (by (repeat ((conv => whnf); first | exact trivial | refine And.intro (by first | exact WkOne.any | exact WkOne.eq (by with_reducible rfl) rfl | exact WkOne.int (by first | omega | (simp; first | done | omega)) | exact WkOne.eq rfl rfl | exact WkOne.le rfl (ILe.nil _)) ?_))))⟩
     | inr hltj =>
       (try (conv => whnf)); (repeat ((first | (with_reducible refine Fork.T (fun hc => ?_) ?_); (exfalso; first | omega | (simp [eqC, cellsI, idv, idl] at hc; first | done | omega) | contradiction) | (with_reducible refine Fork.F (fun hc => ?_) ?_); (exfalso; first | omega | (simp [eqC, cellsI, idv, idl] at hc; first | done | omega) | contradiction) | (with_reducible refine Owe.mk ?_ ?_); (first | omega | (unfold most; omega) | decide +kernel | exact Nat.le_of_ble_eq_true rfl | assumption | (simp [most]; omega)) | (with_reducible intro z hz); (first | (replace hz := hz (by omega); subst hz) | subst hz)); (try (conv => whnf))))
       refine Idx.mk i (uv y) _ rfl (by simp [hy]) (by rw [huy]; try rfl) ?_
       (try (conv => whnf)); (repeat ((first | (with_reducible refine Fork.T (fun hc => ?_) ?_); (exfalso; first | omega | (simp [eqC, cellsI, idv, idl] at hc; first | done | omega) | contradiction) | (with_reducible refine Fork.F (fun hc => ?_) ?_); (exfalso; first | omega | (simp [eqC, cellsI, idv, idl] at hc; first | done | omega) | contradiction) | (with_reducible refine Owe.mk ?_ ?_); (first | omega | (unfold most; omega) | decide +kernel | exact Nat.le_of_ble_eq_true rfl | assumption | (simp [most]; omega)) | (with_reducible intro z hz); (first | (replace hz := hz (by omega); subst hz) | subst hz)); (try (conv => whnf))))
       obtain rfl : j = y.kids.length := by omega
       exact ⟨i + 1, by omega, by dsimp only; omega, ((WeakA.row 0 (((kidsM (cur.take (i + 1)) x).map uv).map .imm) rfl (by rw [hst, List.take_length]))).trans (WeakA.slots 1 (by first | omega | (rw [h0]; exact Nat.le_of_ble_eq_true rfl)) rfl rfl (by first | (simp only [List.all_cons, List.all_nil, blkBelow, belowL_imm, belowL, belowB, Bool.and_true, Bool.true_and]; first | done | decide) | rfl | simp [blkBelow, belowB, belowL, belowL_imm]) (by (repeat ((conv => whnf); first | exact trivial | refine And.intro (by first | exact WkOne.any | exact WkOne.eq (by with_reducible rfl) rfl | exact WkOne.int (by first | omega | (simp; first | done | omega)) | exact WkOne.eq rfl rfl | exact WkOne.le rfl (ILe.nil _)) ?_))))⟩
   | inr hlti =>
     (try (conv => whnf)); (repeat ((first | (with_reducible refine Fork.T (fun hc => ?_) ?_); (exfalso; first | omega | (simp [eqC, cellsI, idv, idl] at hc; first | done | omega) | contradiction) | (with_reducible refine Fork.F (fun hc => ?_) ?_); (exfalso; first | omega | (simp [eqC, cellsI, idv, idl] at hc; first | done | omega) | contradiction) | (with_reducible refine Owe.mk ?_ ?_); (first | omega | (unfold most; omega) | decide +kernel | exact Nat.le_of_ble_eq_true rfl | assumption | (simp [most]; omega)) | (with_reducible intro z hz); (first | (replace hz := hz (by omega); subst hz) | subst hz)); (try (conv => whnf))))
     obtain rfl : i = cur.length := by omega
     refine ⟨k + 1, by omega, by dsimp only; omega, ?_⟩
     dsimp only
     rw [hnx]
     exact ((WeakA.row 0 (((kidsM cur x).map uv).map .imm) rfl (by rw [List.take_length]))).trans ((WeakA.frozen 0 ((kidsM cur x).map uv) rfl (by first | rfl | simp) (ILe.refl _) (by repeat (first | exact trivial | refine And.intro (fzL_imm _ _ _ _) ?_ | refine And.intro rfl ?_))).trans (WeakA.slots 0 (by first | omega | (rw [h0]; exact Nat.le_of_ble_eq_true rfl)) rfl rfl (by first | (simp only [List.all_cons, List.all_nil, blkBelow, belowL_imm, belowL, belowB, Bool.and_true, Bool.true_and]; first | done | decide) | rfl | simp [blkBelow, belowB, belowL, belowL_imm]) (by (repeat ((conv => whnf); first | exact trivial | refine And.intro (by first | exact WkOne.any | exact WkOne.eq (by with_reducible rfl) rfl | exact WkOne.int (by first | omega | (simp; first | done | omega)) | exact WkOne.eq rfl rfl | exact WkOne.le rfl (ILe.nil _)) ?_)))))
 · (try (conv => whnf)); (repeat ((first | (with_reducible refine Fork.T (fun hc => ?_) ?_); (exfalso; first | omega | (simp [eqC, cellsI, idv, idl] at hc; first | done | omega) | contradiction) | (with_reducible refine Fork.F (fun hc => ?_) ?_); (exfalso; first | omega | (simp [eqC, cellsI, idv, idl] at hc; first | done | omega) | contradiction) | (with_reducible refine Owe.mk ?_ ?_); (first | omega | (unfold most; omega) | decide +kernel | exact Nat.le_of_ble_eq_true rfl | assumption | (simp [most]; omega)) | (with_reducible intro z hz); (first | (replace hz := hz (by omega); subst hz) | subst hz)); (try (conv => whnf))))
   obtain rfl : k = r.length := by omega
   rw [List.take_length]
   exact hfin _ (ILes.refl _)
end Go.Proofs.YtiohjjgncbhimaaDoor.Pa
