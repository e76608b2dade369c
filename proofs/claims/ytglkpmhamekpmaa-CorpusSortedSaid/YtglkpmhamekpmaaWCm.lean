/-
  Corpus: the enacted items, by the program.
-/
import Derived.Test.YtglkpmhamekpmaaWCl
namespace Go.Proofs.Ytglkpmhamekpmaa.Po
open Go Go.Pv Go.RowKit
set_option linter.unusedSimpArgs false
open Lab Lcs Go.Proofs.Ytglkpmhamekpmaa Go.Proofs.Ytglkpmhamekpmaa.Pu
open Go.Proofs (ltOf)
set_option maxRecDepth 10000
set_option maxHeartbeats 32000000
def numA (l : AcM) : Nat := (l.map fun p => p.2.items.length).sum
theorem eiA_len (m : CorM) (a : Ac) : (eiA (corA m a)).length = a.items.length := by
 unfold eiA corA
 rw [eisL_len, corI_len]
theorem flat_len' (m : CorM) : ∀ l : AcM, (flatA m l).length = numA l
 | [] => rfl
 | p :: l => by
   have := flat_len' m l
   unfold flatA numA at *
   rw [List.flatMap_cons, List.length_append, eiA_len, this]
   simp
def FitA (a : Ac) : Prop := a.items.length ≤ 1000000 ∧ ∀ x ∈ a.items, CpI x
theorem corI_mem {m : CorM} {n : Int} : ∀ {l : List It} {i : Nat} {y : It}, y ∈ corI m n i l → ∃ x ∈ l, ∃ j, y = corF m n j x
 | [], _, _, h => by cases h
 | x :: l, i, y, h => by
   rw [corI] at h
   rcases List.mem_cons.1 h with rfl | h
   · exact ⟨x, List.mem_cons_self, i, rfl⟩
   · obtain ⟨z, hz, j, e⟩ := corI_mem h
     exact ⟨z, List.mem_cons_of_mem _ hz, j, e⟩
theorem CpI.by {x : It} (h : CpI x) : ∀ y ∈ x.bys, CpI y := by cases h; assumption
theorem corF_fit {r : Rg} (h : GoodR FitA r) {n i : Int} {x : It} (hx : CpI x) : CpI (corF r.cors n i x) := by
 unfold corF
 split
 · rename_i e he
   split
   · obtain ⟨h1, _, a, ha, hea⟩ := h.cor n i e he
     obtain ⟨y, q, hy⟩ := isC_by h1
     obtain ⟨k, u, hu, rfl⟩ := eiA_mem hea
     rw [hy]
     exact (ha.2 u (List.mem_of_getElem? hu)).by y (by rw [show u.bys = y :: q from hy]; exact List.mem_cons_self)
   · exact hx
 · exact hx
theorem corA_fit {r : Rg} (h : GoodR FitA r) {a : Ac} (ha : FitA a) : (corA r.cors a).items.length ≤ 1000000 ∧ ∀ x ∈ (corA r.cors a).items, CpI x := by
 refine ⟨by unfold corA; rw [corI_len]; exact ha.1, fun x hx => ?_⟩
 obtain ⟨y, hy, j, rfl⟩ := corI_mem (show x ∈ corI r.cors a.num 0 a.items from hx)
 exact corF_fit h (ha.2 y hy)
theorem numA_cons (p : Int × Ac) (l : AcM) : numA (p :: l) = p.2.items.length + numA l := by simp [numA]
theorem numA_perm {l l' : AcM} (h : l.Perm l') : numA l = numA l' := by
 unfold numA
 exact (h.map _).sum_nat
theorem flatA_perm {m : CorM} {l l' : AcM} (h : l.Perm l') : (flatA m l).Perm (flatA m l') := by
 unfold flatA
 exact List.Perm.flatMap_right _ h
theorem flatA_cons (m : CorM) (p : Int × Ac) (l : AcM) : flatA m (p :: l) = eiA (corA m p.2) ++ flatA m l := by simp [flatA]
theorem items_of (l : List Gz) (hl : l.length ≤ 1000000) (hG : ∀ g ∈ l, SmG g) (hF : ∀ g ∈ l, ∀ a ∈ g.acts, FitA a) (hn : numA (regO l).acts ≤ 1000000) :
   PC Try.prog env0 12 [.sl 4 (l.map gzv)] [.sl 28 ((sortE (flatR (regO l))).map eiv)] := by
 have hRg := regOf_pcb l hl hG
 have hgood := good_reg hF
 generalize regO l = r at *
 have hokc := hgood.okc
 have hun := deeds_uniq hgood
 refine PC.of_va (T := (tbrk fun r => Nat.beq r 1)) eqs_ok tbr_ok rfl mixed Try.func12 rfl rfl (Nat.le_of_ble_eq_true rfl) ?_; intro Γ C WK LP fin h0 hW hC hB hR hLP hfin
 have h03 : Γ.n0 = 0 := h0
 (try (conv => whnf)); (repeat ((first | refine qT ?_ | refine qF ?_ | refine qO ?_ | (with_reducible intro z hz); (first | (replace hz := hz (by omega); subst hz) | subst hz)); (try (conv => whnf))))
 refine hW _ _ _ (WeakA.spare.trans WeakA.spare) ?_
 (try (conv => whnf)); (repeat ((first | refine qT ?_ | refine qF ?_ | refine qO ?_ | (with_reducible intro z hz); (first | (replace hz := hz (by omega); subst hz) | subst hz)); (try (conv => whnf))))
 refine CallB.mk ([.agg [.row 0 2, .row 1 2, .row 2 2]]) ([.map (.int .i64) 2 (mkL kI acv r.acts), .map (.int .i64) 2 (mkL kI IV.bool r.reps), .map kkC 2 (mkL kv2 eiv r.cors)]) (hB _ _ _ _ _ (hRg)) ?_
 (try (conv => whnf)); (repeat ((first | refine qT ?_ | refine qF ?_ | refine qO ?_ | (with_reducible intro z hz); (first | (replace hz := hz (by omega); subst hz) | subst hz)); (try (conv => whnf))))
 refine hLP _ _ _ (Bool × (Int × Ac) × AcM × List Ei) (fun p => ⟨[(3, .ptr 3 1 0), (4, .row 5 1), (11, .ptr 4 1 0)], [.map (.int .i64) 78 (mkL kI IV.bool r.reps), .map kkC 78 (mkL kv2 eiv r.cors), .dead 1, .box 1 [.row 2 1, .row 0 78, .row 1 78], .map (.iter p.1) 1 (itLL kI acv p.1 p.2.1 p.2.2.1), .row 44 28 1 ((p.2.2.2.map eiv).map .imm)]⟩) (fun p => (p.2.2.2 ++ flatA r.cors p.2.2.1).Perm (flatR r) ∧ (∀ q ∈ p.2.2.1, FitA q.2)) (fun p => p.2.2.1.length) (false, (0, ⟨0, z0, 0, 0, 0, z0, []⟩), r.acts, []) ⟨by simp [flatR], fun q hq => hgood.ok q hq⟩ ((WeakA.nilSlot 4 44 28 (Nat.le_of_ble_eq_true rfl) rfl).trans ((WeakA.row 5 (((([] : List Ei).map eiv).map .imm)) rfl (by rfl)).trans (qSL 6 rfl rfl))) ?_
 rintro ⟨f, q, R, out⟩ ⟨hperm, hfit⟩
 dsimp only at hperm hfit ⊢
 have hle := left_itLL (kv := kI) (vv := acv) f q R
 have hlen := hperm.length_eq
 rw [List.length_append, flat_len'] at hlen
 unfold flatR at hlen
 rw [flat_len'] at hlen
 have hol : ((out.map eiv).map PV.imm).length = out.length := by simp
 (try (conv => whnf)); (repeat ((first | refine qT ?_ | refine qF ?_ | refine qO ?_ | (with_reducible intro z hz); (first | (replace hz := hz (by omega); subst hz) | subst hz)); (try (conv => whnf))))
 refine NxK.mk (fun h0 => ?_) (fun i p hp => ?_)
 · rw [hle] at h0
   obtain rfl := mkL_none h0
   have hS := sortEi_pcb out (sortE (flatR r)) (by omega) (fun l' hp' hs' => by rw [sortE_uniq (hp'.trans (by simpa [flatA] using hperm)) hun hs'])
   (try (conv => whnf)); (repeat ((first | refine qT ?_ | refine qF ?_ | refine qO ?_ | (with_reducible intro z hz); (first | (replace hz := hz (by omega); subst hz) | subst hz)); (try (conv => whnf))))
   refine Imms.mk (out.map eiv) rfl ?_
   (try (conv => whnf)); (repeat ((first | refine qT ?_ | refine qF ?_ | refine qO ?_ | (with_reducible intro z hz); (first | (replace hz := hz (by omega); subst hz) | subst hz)); (try (conv => whnf))))
   refine CallB.mk ([]) ([.row 44 28 1 ((sortE (flatR r)).map eiv)]) (hB _ _ _ _ _ (hS)) ?_
   (try (conv => whnf)); (repeat ((first | refine qT ?_ | refine qF ?_ | refine qO ?_ | (with_reducible intro z hz); (first | (replace hz := hz (by omega); subst hz) | subst hz)); (try (conv => whnf))))
   refine Imms.mk ((sortE (flatR r)).map eiv) rfl ?_
   (try (conv => whnf)); (repeat ((first | refine qT ?_ | refine qF ?_ | refine qO ?_ | (with_reducible intro z hz); (first | (replace hz := hz (by omega); subst hz) | subst hz)); (try (conv => whnf))))
   exact hfin _ (ILes.refl _)
 · rw [hle] at hp
   obtain ⟨p, hq, rfl⟩ := mkL_at hp
   have hpe := erase_permL hq
   have hlt := hpe.length_eq
   have hpf := hfit p (List.mem_of_getElem? hq)
   have hCo := corrected_pcb r p.2 hokc hpf.1
   obtain ⟨hcl, hcf⟩ := corA_fit hgood hpf
   have hI := items_pc (corA r.cors p.2) hcl hcf
   have hel := eiA_len r.cors p.2
   have hpn := numA_perm hpe
   rw [numA_cons] at hpn
   have hfl := flatA_perm (m := r.cors) hpe
   rw [flatA_cons] at hfl
   rw [List.length_cons] at hlt
   have hkp : ∀ y ∈ R.eraseIdx i, FitA y.2 := fun y hy => hfit y (hpe.subset (List.mem_cons_of_mem _ hy))
   generalize eiA (corA r.cors p.2) = X at *
   generalize corA r.cors p.2 = ca at *
   have hxl : (X.map eiv).length = X.length := List.length_map _
   have hxl2 : ((X.map eiv).map PV.imm).length = X.length := by simp
   (try (conv => whnf)); (repeat ((first | refine qT ?_ | refine qF ?_ | refine qO ?_ | (with_reducible intro z hz); (first | (replace hz := hz (by omega); subst hz) | subst hz)); (try (conv => whnf))))
   refine CallB.mk ([.imm (acv ca)]) (rgDC r) (hB _ _ _ _ _ (hCo)) ?_
   (try (conv => whnf)); (repeat ((first | refine qT ?_ | refine qF ?_ | refine qO ?_ | (with_reducible intro z hz); (first | (replace hz := hz (by omega); subst hz) | subst hz) | (refine CallV.mk _ (hC _ _ _ (PCw.of hI)) (fun js hjs => ?_); subst hjs)); (try (conv => whnf))))
   exact ⟨(true, p, R.eraseIdx i, out ++ X), ⟨by
     dsimp only
     rw [List.append_assoc]
     exact (hfl.append_left out).trans hperm, hkp⟩, by dsimp only; omega, by
     dsimp only
     exact ((WeakA.row 5 ((((out ++ X).map eiv).map .imm)) rfl (by simp)).trans ((WeakA.mapTo 4 ((itLL kI acv true p (R.eraseIdx i))) rfl (by rw [hle, mkL_erase]; rfl)).trans ((WeakA.renew 5 1 rfl (by first | omega | (intro _; rw [hk0 _ _ rfl]; exact Nat.le_of_ble_eq_true rfl)) (by repeat (first | exact trivial | refine And.intro (rgL_imms _ _ _ _) ?_ | refine And.intro rfl ?_))).trans (qSL 6 rfl rfl))))⟩
end Go.Proofs.Ytglkpmhamekpmaa.Po
