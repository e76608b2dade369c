/-
  Corpus: the item of a reference, by the program and by the reference.
-/
import Derived.Test.YtglkpmhamekpmaaWDc
namespace Go.Proofs.Ytglkpmhamekpmaa.Po
open Go Go.Pv Go.RowKit
set_option linter.unusedSimpArgs false
open Lab Lcs Go.Proofs.Ytglkpmhamekpmaa Go.Proofs.Ytglkpmhamekpmaa.Pu
set_option maxRecDepth 10000
set_option maxHeartbeats 32000000
theorem lookL_of {κ ν : Type} [DecidableEq κ] {k : κ} {v : ν} : ∀ {m : List (κ × ν)}, (m.map Prod.fst).Nodup → (k, v) ∈ m → lookL m k = some v
 | [], _, h => by cases h
 | p :: m, hn, h => by
   rw [List.map_cons, List.nodup_cons] at hn
   rcases List.mem_cons.1 h with h1 | h
   · rw [← h1]; simp [lookL]
   · have hne : ¬ p.1 = k := fun e => hn.1 (by rw [e]; exact List.mem_map_of_mem (f := Prod.fst) h)
     have := lookL_of hn.2 h
     unfold lookL
     simp [hne, this]
theorem corI_at (m : CorM) (n : Int) : ∀ (l : List It) (j k : Nat), (corI m n j l)[k]? = (l[k]?).map (corF m n ((j + k : Nat) : Int))
 | [], _, _ => by simp [corI]
 | x :: l, j, 0 => by simp [corI]
 | x :: l, j, k + 1 => by
   rw [corI, List.getElem?_cons_succ, List.getElem?_cons_succ, corI_at m n l (j + 1) k, show j + 1 + k = j + (k + 1) by omega]
def findL (d : List Ei) (n i : Int) : Option Ei := d.find? fun e => decide (e.act = n) && decide (e.item = i)
theorem findR_iff {Q : Ac → Prop} {r : Rg} (h : GoodR Q r) (n i : Int) (e : Ei) : findR r n i = some e ↔ e ∈ flatR r ∧ e.act = n ∧ e.item = i := by
 constructor
 · intro hf
   unfold findR at hf
   cases hl : lookL r.acts n with
   | none => rw [hl] at hf; cases hf
   | some a =>
     rw [hl] at hf
     dsimp only at hf
     by_cases h0 : 0 ≤ i
     · rw [if_pos h0] at hf
       cases hx : a.items[i.toNat]? with
       | none => rw [hx] at hf; cases hf
       | some x =>
         rw [hx] at hf
         have hm := lookL_mem hl
         have hn := h.key _ hm
         simp only at hn
         injection hf with hf
         subst hf
         refine ⟨?_, rfl, rfl⟩
         unfold flatR flatA
         refine List.mem_flatMap.2 ⟨_, hm, ?_⟩
         have hxi : (corA r.cors a).items[i.toNat]? = some (corF r.cors a.num i x) := by
           unfold corA
           dsimp only
           rw [corI_at, hx, Nat.zero_add, Int.toNat_of_nonneg h0]; rfl
         have := eiA_at hxi
         rw [Int.toNat_of_nonneg h0] at this
         rw [hn]
         exact this
     · rw [if_neg h0] at hf; cases hf
 · rintro ⟨he, rfl, rfl⟩
   unfold flatR flatA at he
   obtain ⟨p, hp, he⟩ := List.mem_flatMap.1 he
   obtain ⟨k, y, hy, rfl⟩ := eiA_mem he
   have hk := h.key p hp
   have hl : lookL r.acts p.2.num = some p.2 := lookL_of h.nodup (by rw [← hk]; exact hp)
   unfold corA at hy ⊢
   dsimp only at hy ⊢
   rw [corI_at, Nat.zero_add] at hy
   cases hx : p.2.items[k]? with
   | none => rw [hx] at hy; cases hy
   | some x =>
     rw [hx] at hy
     injection hy with hy
     unfold findR
     rw [hl]
     dsimp only
     rw [if_pos (Int.natCast_nonneg k), Int.toNat_natCast, hx]
     dsimp only
     rw [hy]
theorem flat_same {Q : Ac → Prop} {r : Rg} (h : GoodR Q r) {x y : Ei} (hx : x ∈ flatR r) (hy : y ∈ flatR r) (h1 : x.act = y.act) (h2 : x.item = y.item) : x = y := by
 have a := (findR_iff h y.act y.item x).2 ⟨hx, h1, h2⟩
 have b := (findR_iff h y.act y.item y).2 ⟨hy, rfl, rfl⟩
 rw [a] at b
 injection b
theorem findL_iff {d : List Ei} (hu : ∀ x ∈ d, ∀ y ∈ d, x.act = y.act → x.item = y.item → x = y) (n i : Int) (e : Ei) : findL d n i = some e ↔ e ∈ d ∧ e.act = n ∧ e.item = i := by
 unfold findL
 constructor
 · intro h
   have h1 := List.find?_some h
   have h2 := List.mem_of_find?_eq_some h
   simp only [Bool.and_eq_true, decide_eq_true_eq] at h1
   exact ⟨h2, h1⟩
 · rintro ⟨h1, h2, h3⟩
   cases hf : d.find? fun e => decide (e.act = n) && decide (e.item = i) with
   | none =>
     have := List.find?_eq_none.1 hf e h1
     simp [h2, h3] at this
   | some x =>
     have h4 := List.find?_some hf
     have h5 := List.mem_of_find?_eq_some hf
     simp only [Bool.and_eq_true, decide_eq_true_eq] at h4
     rw [hu x h5 e h1 (by rw [h4.1, h2]) (by rw [h4.2, h3])]
theorem deeds_perm (l : List Gz) : (deeds l).Perm (flatR (regO l)) := by
 unfold deeds
 rw [← items_reg]
 exact sortE_perm _
theorem opt_ext {α : Type} {a b : Option α} (h : ∀ x, a = some x ↔ b = some x) : a = b := by
 cases a with
 | none => cases b with
   | none => rfl
   | some y => exact absurd ((h y).2 rfl) (by simp)
 | some x => exact ((h x).1 rfl).symm
theorem find_eq {Q : Ac → Prop} (l : List Gz) (h : GoodR Q (regO l)) (n i : Int) : findR (regO l) n i = findL (deeds l) n i := by
 have hp := deeds_perm l
 refine opt_ext fun e => ?_
 rw [findR_iff h, findL_iff (fun x hx y hy => flat_same h (hp.subset hx) (hp.subset hy)), hp.mem_iff]
theorem numZ_take (l : List Gz) (k : Nat) : numZ (l.take k) ≤ numZ l := by
 unfold numZ
 exact sum_takeG _ _ _
theorem Few30.of {l l' : List Gz} {m : Nat} (h : Few30 l m) (hs : ∀ g ∈ l', g ∈ l) (hl : l'.length ≤ 8) (hn : numZ l' ≤ m) : Few30 l' m :=
 ⟨hl, fun g hg => h.acts g (hs g hg), hn, by rw [num_all]; exact hn, fun g hg => h.fit g (hs g hg), fun g hg => h.all g (hs g hg)⟩
theorem Few30.take {l : List Gz} {m : Nat} (h : Few30 l m) (k : Nat) : Few30 (l.take k) m :=
 h.of (fun g hg => List.take_subset _ _ hg) (by rw [List.length_take]; have := h.len; omega) (by have := numZ_take l k; have := h.cnt; omega)
theorem Few30.hs {l : List Gz} {m : Nat} (h : Few30 l m) (n : Int) : ∀ a, lookL (regO l).acts n = some a → a.items.length ≤ 1000000 := fun _ ha =>
 ((good_reg h.fit).ok _ (lookL_mem ha)).1
theorem Few30.findCp {l : List Gz} {m : Nat} (h : Few30 l m) {n i : Int} {e : Ei} (he : findL (Po.deeds l) n i = some e) : CpI e.it := h.cp e (List.mem_of_find?_eq_some he)
theorem Few30.find {l : List Gz} {m : Nat} (h : Few30 l m) (n i : Int) : PC Try.prog env0 14 [.int .i64 n, .int .i64 i, .sl 4 (l.map gzv)] [oeiv (findL (Po.deeds l) n i), .bool (findL (Po.deeds l) n i).isSome] := by
 have hl := h.len
 have hRg := regOf_pcb l (by omega) h.small
 have hg := good_reg h.fit
 have hF := find_pcb (regO l) n i hg.okc (h.hs n)
 have hcp := fun e => h.findCp (n := n) (i := i) (e := e)
 rw [find_eq l hg] at hF
 generalize regO l = r at *
 cases hf : findL (Po.deeds l) n i with
 | none =>
   rw [hf] at hF
   refine PC.of_va (T := (tbrk fun r => Nat.beq r 0)) eqs_ok tbr_ok rfl mixed Try.func14 rfl rfl (Nat.le_of_ble_eq_true rfl) ?_; intro Γ C WK LP fin h0 hW hC hB hR hLP hfin
   have h03 : Γ.n0 = 0 := h0
   (try (conv => whnf)); (repeat ((first | refine qT ?_ | refine qF ?_ | refine qO ?_ | (with_reducible intro z hz); (first | (replace hz := hz (by omega); subst hz) | subst hz)); (try (conv => whnf))))
   refine hW _ _ _ (WeakA.spare.trans WeakA.spare) ?_
   (try (conv => whnf)); (repeat ((first | refine qT ?_ | refine qF ?_ | refine qO ?_ | (with_reducible intro z hz); (first | (replace hz := hz (by omega); subst hz) | subst hz)); (try (conv => whnf))))
   refine CallB.mk ([.agg [.row 0 2, .row 1 2, .row 2 2]]) ([.map (.int .i64) 2 (mkL kI acv r.acts), .map (.int .i64) 2 (mkL kI IV.bool r.reps), .map kkC 2 (mkL kv2 eiv r.cors)]) (hB _ _ _ _ _ (hRg)) ?_
   (try (conv => whnf)); (repeat ((first | refine qT ?_ | refine qF ?_ | refine qO ?_ | (with_reducible intro z hz); (first | (replace hz := hz (by omega); subst hz) | subst hz)); (try (conv => whnf))))
   refine CallB.mk ([.imm eivZ, .imm (.bool false)]) (rgC r) (hB _ _ _ _ _ (hF)) ?_
   (try (conv => whnf)); (repeat ((first | refine qT ?_ | refine qF ?_ | refine qO ?_ | (with_reducible intro z hz); (first | (replace hz := hz (by omega); subst hz) | subst hz)); (try (conv => whnf))))
   exact hfin _ (ILes.refl _)
 | some e =>
   rw [hf] at hF
   have hCi := copyOfItem_pc e.it (hcp e hf)
   rw [itv_eq e.it] at hCi
   refine PC.of_va (T := (tbrk fun r => Nat.beq r 0)) eqs_ok tbr_ok rfl mixed Try.func14 rfl rfl (Nat.le_of_ble_eq_true rfl) ?_; intro Γ C WK LP fin h0 hW hC hB hR hLP hfin
   have h03 : Γ.n0 = 0 := h0
   (try (conv => whnf)); (repeat ((first | refine qT ?_ | refine qF ?_ | refine qO ?_ | (with_reducible intro z hz); (first | (replace hz := hz (by omega); subst hz) | subst hz)); (try (conv => whnf))))
   refine hW _ _ _ (WeakA.spare.trans WeakA.spare) ?_
   (try (conv => whnf)); (repeat ((first | refine qT ?_ | refine qF ?_ | refine qO ?_ | (with_reducible intro z hz); (first | (replace hz := hz (by omega); subst hz) | subst hz)); (try (conv => whnf))))
   refine CallB.mk ([.agg [.row 0 2, .row 1 2, .row 2 2]]) ([.map (.int .i64) 2 (mkL kI acv r.acts), .map (.int .i64) 2 (mkL kI IV.bool r.reps), .map kkC 2 (mkL kv2 eiv r.cors)]) (hB _ _ _ _ _ (hRg)) ?_
   (try (conv => whnf)); (repeat ((first | refine qT ?_ | refine qF ?_ | refine qO ?_ | (with_reducible intro z hz); (first | (replace hz := hz (by omega); subst hz) | subst hz)); (try (conv => whnf))))
   refine CallB.mk ([.imm (eiv e), .imm (.bool true)]) (rgC r) (hB _ _ _ _ _ (hF)) ?_
   (try (conv => whnf)); (repeat ((first | refine qT ?_ | refine qF ?_ | refine qO ?_ | (with_reducible intro z hz); (first | (replace hz := hz (by omega); subst hz) | subst hz) | (refine CallV.mk _ (hC _ _ _ (PCw.of hCi)) (fun js hjs => ?_); subst hjs)); (try (conv => whnf))))
   exact hfin _ (ILes.refl _)
theorem findL_take {d : List Ei} {n i : Int} {k : Nat} {e : Ei} (he : d[k]? = some e) (hn : findL (d.take k) n i = none) : findL (d.take (k + 1)) n i = (if e.act = n ∧ e.item = i then some e else none) := by
 unfold findL at *
 rw [take_at he, List.find?_append, hn, Option.none_or, List.find?_singleton]
 by_cases h : e.act = n ∧ e.item = i
 · simp [h.1, h.2]
 · rw [if_neg h]
   simp only [Bool.and_eq_true, decide_eq_true_eq, if_neg h]
theorem findL_pre {d : List Ei} {n i : Int} {k : Nat} {e : Ei} (h : findL (d.take k) n i = some e) : findL d n i = some e := by
 unfold findL at *
 rw [← List.take_append_drop k d, List.find?_append, h]
 rfl
abbrev bxE0 : Blk := .box 1 [.imm (.int .i64 0), .imm (.int .i64 0), .imm (.int .i64 0), .imm (.int .i64 0), .imm .nil, .imm .nil, .imm (.int .i64 0), .imm (.int .i64 0), .imm (.int .i64 0), .imm (.int .i64 0), .imm (.int .i64 0), .imm (.int .i64 0), .imm (.str ⟨#[]⟩), .imm .nil, .imm .nil, .imm .nil, .imm .nil, .imm .nil, .imm (.str ⟨#[]⟩), .imm (.str ⟨#[]⟩), .imm (.int .i64 0), .imm (.int .i64 0), .imm (.str ⟨#[]⟩), .imm (.int .i64 0), .imm (.int .i64 0), .imm (.int .i64 0), .imm (.str ⟨#[]⟩), .imm .nil]
theorem findRef_pc (d : List Ei) (L : List IV) (n i : Int) (hd : d.length ≤ 1000000) (hD : PC Try.prog env0 13 L [.sl 28 (d.map eiv)]) (hL : L.length = 1) : PC Try.prog env0 15 (.int .i64 n :: .int .i64 i :: L) [oeiv (findL d n i), .bool (findL d n i).isSome] := by
 obtain ⟨g, rfl⟩ : ∃ g, L = [g] := List.length_eq_one_iff.1 hL
 have hml : (d.map eiv).length = d.length := List.length_map _
 refine PC.of_va (T := tbr0) eqs_ok tbr_ok rfl mixed Try.func15 rfl rfl (Nat.le_of_ble_eq_true rfl) ?_; intro Γ C WK LP fin h0 hW hC hB hR hLP hfin
 (try (conv => whnf)); (repeat ((first | refine qT ?_ | refine qF ?_ | refine qO ?_ | (with_reducible intro z hz); (first | (replace hz := hz (by omega); subst hz) | subst hz) | (refine CallV.mk _ (hC _ _ _ (PCw.of hD)) (fun js hjs => ?_); subst hjs)); (try (conv => whnf))))
 refine hLP _ _ _ Nat (fun k => ⟨[(0, .imm (.int .i64 n)), (1, .imm (.int .i64 i)), (6, .ptr 0 1 0), (7, .imm (.bool false)), (8, .imm (.sl 28 (d.map eiv))), (9, .imm (.int .i64 (k : Nat)))], [bxE0]⟩) (fun k => k ≤ d.length ∧ findL (d.take k) n i = none) (fun k => d.length - k) 0 ⟨Nat.zero_le _, by simp [findL]⟩ (qSL 1 rfl rfl) ?_
 rintro k ⟨hk, hno⟩
 have hho := Nat.lt_or_ge k d.length
 cases hho with
 | inl hlt =>
   obtain ⟨e, he⟩ : ∃ e, d[k]? = some e := ⟨d[k], List.getElem?_eq_getElem hlt⟩
   have hst := findL_take he hno
   by_cases hn : e.act = n
   · by_cases hi : e.item = i
     · rw [if_pos ⟨hn, hi⟩] at hst
       rw [findL_pre hst] at hfin
       (try (conv => whnf)); (repeat ((first | refine qT ?_ | refine qF ?_ | refine qO ?_ | (with_reducible intro z hz); (first | (replace hz := hz (by omega); subst hz) | subst hz)); (try (conv => whnf))))
       refine Idx.mk k (eiv e) _ rfl (by simp [he]) rfl ?_
       (try (conv => whnf)); (repeat ((first | refine qT ?_ | refine qF ?_ | refine qO ?_ | (with_reducible intro z hz); (first | (replace hz := hz (by omega); subst hz) | subst hz)); (try (conv => whnf))))
       refine Idx.mk k (eiv e) _ rfl (by simp [he]) rfl ?_
       (try (conv => whnf)); (repeat ((first | refine qT ?_ | refine qF ?_ | refine qO ?_ | (with_reducible intro z hz); (first | (replace hz := hz (by omega); subst hz) | subst hz)); (try (conv => whnf))))
       refine Idx.mk k (eiv e) _ rfl (by simp [he]) rfl ?_
       (try (conv => whnf)); (repeat ((first | refine qT ?_ | refine qF ?_ | refine qO ?_ | (with_reducible intro z hz); (first | (replace hz := hz (by omega); subst hz) | subst hz)); (try (conv => whnf))))
       exact hfin _ (ILes.refl _)
     · rw [if_neg fun h => hi h.2] at hst
       (try (conv => whnf)); (repeat ((first | refine qT ?_ | refine qF ?_ | refine qO ?_ | (with_reducible intro z hz); (first | (replace hz := hz (by omega); subst hz) | subst hz)); (try (conv => whnf))))
       refine Idx.mk k (eiv e) _ rfl (by simp [he]) rfl ?_
       (try (conv => whnf)); (repeat ((first | refine qT ?_ | refine qF ?_ | refine qO ?_ | (with_reducible intro z hz); (first | (replace hz := hz (by omega); subst hz) | subst hz)); (try (conv => whnf))))
       refine Idx.mk k (eiv e) _ rfl (by simp [he]) rfl ?_
       (try (conv => whnf)); (repeat ((first | refine qT ?_ | refine qF ?_ | refine qO ?_ | (with_reducible intro z hz); (first | (replace hz := hz (by omega); subst hz) | subst hz)); (try (conv => whnf))))
       exact ⟨k + 1, ⟨by omega, hst⟩, by dsimp only; omega, (qSL 1 rfl rfl)⟩
   · rw [if_neg fun h => hn h.1] at hst
     (try (conv => whnf)); (repeat ((first | refine qT ?_ | refine qF ?_ | refine qO ?_ | (with_reducible intro z hz); (first | (replace hz := hz (by omega); subst hz) | subst hz)); (try (conv => whnf))))
     refine Idx.mk k (eiv e) _ rfl (by simp [he]) rfl ?_
     (try (conv => whnf)); (repeat ((first | refine qT ?_ | refine qF ?_ | refine qO ?_ | (with_reducible intro z hz); (first | (replace hz := hz (by omega); subst hz) | subst hz)); (try (conv => whnf))))
     exact ⟨k + 1, ⟨by omega, hst⟩, by dsimp only; omega, (qSL 1 rfl rfl)⟩
 | inr hge =>
   obtain rfl : k = d.length := by omega
   rw [List.take_length] at hno
   rw [hno] at hfin
   (try (conv => whnf)); (repeat ((first | refine qT ?_ | refine qF ?_ | refine qO ?_ | (with_reducible intro z hz); (first | (replace hz := hz (by omega); subst hz) | subst hz)); (try (conv => whnf))))
   exact hfin _ (ILes.refl _)
end Go.Proofs.Ytglkpmhamekpmaa.Po
