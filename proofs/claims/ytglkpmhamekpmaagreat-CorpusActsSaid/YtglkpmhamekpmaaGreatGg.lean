/-
  Corpus: since when an item is known, by the reference. Corpus: the law of finds. Corpus: the acts in legal order, by the program.
-/
import Derived.Test.YtglkpmhamekpmaaGreatGe
namespace Go.Proofs.YtglkpmhamekpmaaGreat.Po
open Go Go.Pv Go.RowKit
set_option linter.unusedSimpArgs false
open Lab Lcs Go.Proofs.YtglkpmhamekpmaaGreat Go.Proofs.YtglkpmhamekpmaaGreat.Pu
set_option maxRecDepth 10000
set_option maxHeartbeats 32000000
end Go.Proofs.YtglkpmhamekpmaaGreat.Po
namespace Go.Proofs.YtglkpmhamekpmaaGreat.Po
open Go Go.Pv Go.RowKit
set_option linter.unusedSimpArgs false
open Lab Lcs Go.Proofs.YtglkpmhamekpmaaGreat Go.Proofs.YtglkpmhamekpmaaGreat.Pu
set_option maxRecDepth 10000
set_option maxHeartbeats 32000000
end Go.Proofs.YtglkpmhamekpmaaGreat.Po
namespace Go.Proofs.YtglkpmhamekpmaaGreat.Po
open Go Go.Pv Go.RowKit
set_option linter.unusedSimpArgs false
open Lab Lcs Go.Proofs.YtglkpmhamekpmaaGreat Go.Proofs.YtglkpmhamekpmaaGreat.Pu
open Go.Sort (SWO)
open Go.Proofs (ltOf)
set_option maxRecDepth 10000
set_option maxHeartbeats 32000000
def legA (a b : Ac) : Int := if cmpZ a.day b.day ≠ 0 then cmpZ a.day b.day else if cmpZ a.num b.num ≠ 0 then cmpZ a.num b.num else cmpZ 0 0
def enZ (n d : Int) : En := ⟨n, 0, d, ⟨0, fun k => ([.nil, .nil, .nil, .int .i64 0, .int .i64 0, .int .i64 0, .int .i64 0, .int .i64 0, .int .i64 0, .str ⟨#[]⟩, .nil, .nil, .nil, .nil, .nil, .str ⟨#[]⟩, .str ⟨#[]⟩] : List IV).getD k .nil, ⟨0, 0, z0⟩, 0, 0, 0, z0, .nil⟩⟩
theorem compareA_pc (a b : Ac) : PC Tryz.prog env0 48 [.agg [.int .i64 a.num, .int .i64 0, .int .i64 a.day, .int .i64 0, .nil, .nil, .int .i64 0, .int .i64 0, .int .i64 0, .int .i64 0, .int .i64 0, .int .i64 0, .str ⟨#[]⟩, .nil, .nil, .nil, .nil, .nil, .str ⟨#[]⟩, .str ⟨#[]⟩, .int .i64 0, .int .i64 0, .str ⟨#[]⟩, .int .i64 0, .int .i64 0, .int .i64 0, .str ⟨#[]⟩, .nil], .agg [.int .i64 b.num, .int .i64 0, .int .i64 b.day, .int .i64 0, .nil, .nil, .int .i64 0, .int .i64 0, .int .i64 0, .int .i64 0, .int .i64 0, .int .i64 0, .str ⟨#[]⟩, .nil, .nil, .nil, .nil, .nil, .str ⟨#[]⟩, .str ⟨#[]⟩, .int .i64 0, .int .i64 0, .str ⟨#[]⟩, .int .i64 0, .int .i64 0, .int .i64 0, .str ⟨#[]⟩, .nil]] [.int .i64 (legA a b)] := compare_pc (enZ a.num a.day) (enZ b.num b.day)
theorem acts1_pc (a b : Ac) : PC Tryz.prog env0 47 [acv a, acv b] [.int .i64 (legA a b)] := by
 have hC1 := compareA_pc a b
 generalize legA a b = z at *
 unfold acv
 refine PC.of_va (T := tbr0) eqs_ok tbr_ok rfl mixed Tryz.func47 rfl rfl (Nat.le_of_ble_eq_true rfl) ?_; intro Γ C WK LP fin h0 hW hC hB hR hLP hfin
 (try (conv => whnf)); (repeat ((first | refine qT ?_ | refine qF ?_ | refine qO ?_ | (with_reducible intro z hz); (first | (replace hz := hz (by omega); subst hz) | subst hz) | (refine CallV.mk _ (hC _ _ _ (PCw.of hC1)) (fun js hjs => ?_); subst hjs)); (try (conv => whnf))))
 exact hfin _ (ILes.refl _)
theorem legA_lt {a b : Ac} : legA a b < 0 ↔ ltA a b := by
 unfold legA ltA
 have h1 := @cmpZ_lt a.day b.day
 have h2 := @cmpZ_lt a.num b.num
 have h3 := @cmpZ_lt 0 0
 have h4 := @cmpZ_zero a.day b.day
 have h5 := @cmpZ_zero a.num b.num
 split
 · rename_i h; rw [h1]; have : ¬ a.day = b.day := fun e => h (h4.2 e); omega
 · rename_i h
   have e1 : a.day = b.day := h4.1 (by omega)
   split
   · rename_i g; rw [h2]; have : ¬ a.num = b.num := fun e => g (h5.2 e); omega
   · rename_i g
     have e2 : a.num = b.num := h5.1 (by omega)
     rw [h3]; omega
theorem ltAc_iff {a b : Ac} : ltOf legA a b = true ↔ ltA a b := by unfold ltOf; rw [decide_eq_true_iff, legA_lt]
theorem ltAc_no {a b : Ac} : ltOf legA a b = false ↔ ¬ ltA a b := by rw [← ltAc_iff]; simp
theorem swoA : SWO (ltOf legA) where
 irrefl x := by rw [ltAc_no]; unfold ltA; omega
 trans x y z h1 h2 := by rw [ltAc_iff] at *; unfold ltA at *; omega
 ntrans x y z h1 h2 := by rw [ltAc_no] at *; unfold ltA at *; omega
theorem actsA_uniq : ∀ {l l' : List Ac}, l'.Perm l → l.Pairwise ltA → l'.Pairwise (fun a b => ltOf legA b a = false) → l' = l
 | [], l', hp, _, _ => List.Perm.eq_nil hp
 | a :: l, [], hp, _, _ => by have := hp.length_eq; simp at this
 | a :: l, b :: l', hp, hs, hs' => by
   have hab : b = a := by
     rw [List.pairwise_cons] at hs hs'
     rcases List.mem_cons.1 (hp.subset List.mem_cons_self) with h | h
     · exact h
     · have h1 := hs.1 b h
       rcases List.mem_cons.1 (hp.symm.subset List.mem_cons_self) with h2 | h2
       · rw [h2]
       · have := hs'.1 a h2
         rw [ltAc_no] at this
         exact absurd h1 this
   subst hab
   rw [List.pairwise_cons] at hs hs'
   rw [actsA_uniq hp.cons_inv hs.2 hs'.2]
theorem aggA : ∀ w, (isAgg 32).run Tryz.prog w = .ok true w := fun _ => by kernel_rfl
theorem sizeA : ∀ w, (Go.sizeOf 32).run Tryz.prog w = .ok 7 w := fun _ => by kernel_rfl
theorem sortAc_pcb (L S : List Ac) (hL : L.length ≤ 1000000000) (hS : ∀ l' : List Ac, l'.Perm L → l'.Pairwise (fun a b => ltOf legA b a = false) → l'.map acv = S.map acv) :
   PCB Tryz.prog env0 46 [.row 0 1, .imm (.fn 47)] [.row 32 7 1 ((L.map acv).map .imm)] [] [.row 32 7 1 ((S.map acv).map .imm)] :=
 sortV_pcb acv (by decide) (fun x => ⟨_, rfl⟩) legA swoA (enters_of Tryz.func46 rfl rfl)
   (fun α _ enc hk h1 cfa hO blk cap d w hcmp hH hb hd => by
     have hcon := Go.Proofs.AnyQ.slices_SortFunc Tryz.sortAc 7 aggA sizeA enc hk h1 cfa hO 47 #[] blk 0 cap d w (enters_of Tryz.func47 rfl rfl) hcmp hH hb hd
     change Calls Tryz.prog 46 _ _ _ at hcon
     exact hcon)
   (fun p cap w => by
     have hcon := Go.Proofs.AnyF.slices_SortFunc_none (P := Tryz.prog) (ρ := Tryz.sortAc_ren) { Tryz.sortAc with } p cap (.func (.func 47) #[] #[]) w
     change Calls Tryz.prog 46 _ _ _ at hcon
     exact hcon)
   L S (by unfold most; exact hL) (fun x _ y _ => acts1_pc x y) hS
theorem actsP_of (l : List Gz) (hl : l.length ≤ 1000000) (hG : ∀ g ∈ l, SmG g) (hF : ∀ g ∈ l, ∀ a ∈ g.acts, FitA a) (hn : (regO l).acts.length ≤ 1000000) :
   PC Tryz.prog env0 12 [.sl 4 (l.map gzv)] [.sl 7 ((actsR (allA l)).map acv)] := by
 have hRg := regOf_pcb l hl hG
 have hgood := good_reg hF
 have hperm0 : ((regO l).acts.map Prod.snd).Perm (actsR (allA l)) := by
   rw [regO_all]
   have := actsK_perm (allA l) (allA l).length (Nat.le_refl _)
   unfold rgK at this
   rw [List.take_length] at this
   exact this.symm
 have hsort := actsK_sorted (allA l) (allA l).length (Nat.le_refl _)
 rw [show actsK (allA l) (allA l).length = actsR (allA l) from rfl] at hsort
 generalize actsR (allA l) = S at *
 generalize regO l = r at *
 refine PC.of_va (T := (tbrk fun r => Nat.beq r 2)) eqs_ok tbr_ok rfl mixed Tryz.func12 rfl rfl (Nat.le_of_ble_eq_true rfl) ?_; intro Γ C WK LP fin h0 hW hC hB hR hLP hfin
 have h03 : Γ.n0 = 0 := h0
 (try (conv => whnf)); (repeat ((first | refine qT ?_ | refine qF ?_ | refine qO ?_ | (with_reducible intro z hz); (first | (replace hz := hz (by omega); subst hz) | subst hz)); (try (conv => whnf))))
 refine hW _ _ _ (WeakA.spare.trans WeakA.spare) ?_
 (try (conv => whnf)); (repeat ((first | refine qT ?_ | refine qF ?_ | refine qO ?_ | (with_reducible intro z hz); (first | (replace hz := hz (by omega); subst hz) | subst hz)); (try (conv => whnf))))
 refine CallB.mk ([.agg [.row 0 2, .row 1 2, .row 2 2]]) ([.map (.int .i64) 2 (mkL kI acv r.acts), .map (.int .i64) 2 (mkL kI IV.bool r.reps), .map kkC 2 (mkL kv2 eiv r.cors)]) (hB _ _ _ _ _ (hRg)) ?_
 (try (conv => whnf)); (repeat ((first | refine qT ?_ | refine qF ?_ | refine qO ?_ | (with_reducible intro z hz); (first | (replace hz := hz (by omega); subst hz) | subst hz)); (try (conv => whnf))))
 refine hLP _ _ _ (Bool × (Int × Ac) × AcM × List Ac) (fun p => ⟨[(3, .row 4 1), (9, .ptr 3 1 0)], [.map (.int .i64) 78 (mkL kI IV.bool r.reps), .map kkC 78 (mkL kv2 eiv r.cors), .dead 1, .map (.iter p.1) 1 (itLL kI acv p.1 p.2.1 p.2.2.1), .row 32 7 1 ((p.2.2.2.map acv).map .imm)]⟩) (fun p => (p.2.2.2 ++ p.2.2.1.map Prod.snd).Perm S ∧ (∀ q ∈ p.2.2.1, FitA q.2)) (fun p => p.2.2.1.length) (false, (0, ⟨0, z0, 0, 0, 0, z0, []⟩), r.acts, []) ⟨by simpa using hperm0, fun q hq => hgood.ok q hq⟩ ((WeakA.nilSlot 3 32 7 (Nat.le_of_ble_eq_true rfl) rfl).trans ((WeakA.row 4 (((([] : List Ac).map acv).map .imm)) rfl (by rfl)).trans (qSL 5 rfl rfl))) ?_
 rintro ⟨f, q, R, out⟩ ⟨hperm, hfit⟩
 dsimp only at hperm hfit ⊢
 have hle := left_itLL (kv := kI) (vv := acv) f q R
 have hlen := hperm.length_eq
 have hlen0 := hperm0.length_eq
 rw [List.length_append, List.length_map] at hlen
 rw [List.length_map] at hlen0
 have hol : ((out.map acv).map PV.imm).length = out.length := by simp
 (try (conv => whnf)); (repeat ((first | refine qT ?_ | refine qF ?_ | refine qO ?_ | (with_reducible intro z hz); (first | (replace hz := hz (by omega); subst hz) | subst hz)); (try (conv => whnf))))
 refine NxK.mk (fun h0 => ?_) (fun i p hp => ?_)
 · rw [hle] at h0
   obtain rfl := mkL_none h0
   have hS := sortAc_pcb out S (by omega) (fun l' hp' hs' => by rw [actsA_uniq (hp'.trans (by simpa using hperm)) hsort hs'])
   (try (conv => whnf)); (repeat ((first | refine qT ?_ | refine qF ?_ | refine qO ?_ | (with_reducible intro z hz); (first | (replace hz := hz (by omega); subst hz) | subst hz)); (try (conv => whnf))))
   refine Imms.mk (out.map acv) rfl ?_
   (try (conv => whnf)); (repeat ((first | refine qT ?_ | refine qF ?_ | refine qO ?_ | (with_reducible intro z hz); (first | (replace hz := hz (by omega); subst hz) | subst hz)); (try (conv => whnf))))
   refine CallB.mk ([]) ([.row 32 7 1 (S.map acv)]) (hB _ _ _ _ _ (hS)) ?_
   (try (conv => whnf)); (repeat ((first | refine qT ?_ | refine qF ?_ | refine qO ?_ | (with_reducible intro z hz); (first | (replace hz := hz (by omega); subst hz) | subst hz)); (try (conv => whnf))))
   refine Imms.mk (S.map acv) rfl ?_
   (try (conv => whnf)); (repeat ((first | refine qT ?_ | refine qF ?_ | refine qO ?_ | (with_reducible intro z hz); (first | (replace hz := hz (by omega); subst hz) | subst hz)); (try (conv => whnf))))
   exact hfin _ (ILes.refl _)
 · rw [hle] at hp
   obtain ⟨p, hq, rfl⟩ := mkL_at hp
   have hpe := erase_permL hq
   have hlt := hpe.length_eq
   have hpf := hfit p (List.mem_of_getElem? hq)
   have hCo := copyOf_pc p.2 hpf.1 hpf.2
   unfold acv at hCo
   rw [List.length_cons] at hlt
   have hkp : ∀ y ∈ R.eraseIdx i, FitA y.2 := fun y hy => hfit y (hpe.subset (List.mem_cons_of_mem _ hy))
   (try (conv => whnf)); (repeat ((first | refine qT ?_ | refine qF ?_ | refine qO ?_ | (with_reducible intro z hz); (first | (replace hz := hz (by omega); subst hz) | subst hz) | (refine CallV.mk _ (hC _ _ _ (PCw.of hCo)) (fun js hjs => ?_); subst hjs)); (try (conv => whnf))))
   exact ⟨(true, p, R.eraseIdx i, out ++ [p.2]), ⟨by
     dsimp only
     rw [List.append_assoc]
     exact (((hpe.map Prod.snd).append_left out).trans hperm), hkp⟩, by dsimp only; omega, by
     dsimp only
     exact ((WeakA.row 4 ((((out ++ [p.2]).map acv).map .imm)) rfl (by simp [acv])).trans ((WeakA.mapTo 3 ((itLL kI acv true p (R.eraseIdx i))) rfl (by rw [hle, mkL_erase]; rfl)).trans ((WeakA.renew 4 1 rfl (by first | omega | (intro _; rw [hk0 _ _ rfl]; exact Nat.le_of_ble_eq_true rfl)) (by repeat (first | exact trivial | refine And.intro (rgL_imms _ _ _ _) ?_ | refine And.intro rfl ?_))).trans (qSL 5 rfl rfl))))⟩
end Go.Proofs.YtglkpmhamekpmaaGreat.Po
