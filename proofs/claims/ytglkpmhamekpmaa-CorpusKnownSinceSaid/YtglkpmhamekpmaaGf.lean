/-
  Corpus: the gazettes before a day's, by the program and by the reference. Corpus: since when an item is known, by the program. Corpus: since when an item is known, by the program.
-/
import Derived.Test.YtglkpmhamekpmaaGe
namespace Go.Proofs.Ytglkpmhamekpmaa.Po
open Go Go.Pv Go.RowKit
set_option linter.unusedSimpArgs false
open Lab Lcs Go.Proofs.Ytglkpmhamekpmaa Go.Proofs.Ytglkpmhamekpmaa.Pu
set_option maxRecDepth 10000
set_option maxHeartbeats 32000000
end Go.Proofs.Ytglkpmhamekpmaa.Po
namespace Go.Proofs.Ytglkpmhamekpmaa.Po
open Go Go.Pv Go.RowKit
set_option linter.unusedSimpArgs false
open Lab Lcs Go.Proofs.Ytglkpmhamekpmaa Go.Proofs.Ytglkpmhamekpmaa.Pu
set_option maxRecDepth 10000
set_option maxHeartbeats 32000000
abbrev zC : List PV := [.imm (.int .i64 0), .imm (.int .i64 0), .imm (.int .i64 0), .imm (.int .i64 0), .imm .nil, .imm .nil, .imm (.int .i64 0), .imm (.int .i64 0), .imm (.int .i64 0), .imm (.int .i64 0), .imm (.int .i64 0), .imm (.int .i64 0), .imm (.str ⟨#[]⟩), .imm .nil, .imm .nil, .imm .nil, .imm .nil, .imm .nil, .imm (.str ⟨#[]⟩), .imm (.str ⟨#[]⟩), .imm (.int .i64 0), .imm (.int .i64 0), .imm (.str ⟨#[]⟩), .imm (.int .i64 0), .imm (.int .i64 0), .imm (.int .i64 0), .imm (.str ⟨#[]⟩), .imm .nil]
abbrev eiC (e : Ei) : List PV := [.imm (.int .i64 e.act), .imm (.int .i64 e.item), .imm (.int .i64 e.day), .imm (.int .i64 e.it.kind), .imm (.sl 2 (e.it.p.map spv)), .imm (.sl 2 (e.it.q.map spv)), .imm (.int .i64 e.it.z), .imm (.int .i64 e.it.nth), .imm (.int .i64 e.it.unit.id.x), .imm (.int .i64 e.it.unit.id.y), .imm (.int .i64 e.it.unit.id.z), .imm (.int .i64 e.it.unit.kind), .imm (.str e.it.unit.label), .imm (.sl 4 (e.it.unit.head.map wdv)), .imm (.sl 4 (e.it.unit.words.map wdv)), .imm (.sl 8 (e.it.unit.kids.map uv)), .imm (.sl 1 (e.it.old.map IV.str)), .imm (.sl 1 (e.it.new.map IV.str)), .imm (.str e.it.lb), .imm (.str e.it.fr), .imm (.int .i64 e.it.sk), .imm (.int .i64 e.it.sd), .imm (.str e.it.se), .imm (.int .i64 e.it.a), .imm (.int .i64 e.it.i), .imm (.int .i64 e.it.d), .imm (.str e.it.ev), .imm (.sl 25 (e.it.bys.map itv))]
abbrev knB (r : Rg) (n i : Int) (kc : List PV) : List Blk := [.box 1 [.row 4 1, .row 5 1, .row 6 1], .box 1 [.imm (.int .i64 n)], .box 1 [.imm (.int .i64 i)], .box 1 kc, .map (.int .i64) 1 (mkL kI acv r.acts), .map (.int .i64) 1 (mkL kI IV.bool r.reps), .map kkC 1 (mkL kv2 eiv r.cors)]
abbrev knC (r : Rg) (n i : Int) (kc : List PV) : List CBk := [.box 1 [.row 4 1, .row 5 1, .row 6 1], .box 1 [.imm (.int .i64 n)], .box 1 [.imm (.int .i64 i)], .box 1 kc, .map (.int .i64) 1 (mkL kI acv r.acts), .map (.int .i64) 1 (mkL kI IV.bool r.reps), .map kkC 1 (mkL kv2 eiv r.cors)]
abbrev ptrs4 : List PV := [.ptr 0 1 0, .ptr 1 1 0, .ptr 2 1 0, .ptr 3 1 0]
theorem knZ_none (r : Rg) (g : Gz) (n i : Int) (hl : g.acts.length ≤ 1000000) (hA : ∀ a ∈ g.acts, SmA a) (hm : OkC' (addG r g).cors) (hs : ∀ a, lookL (addG r g).acts n = some a → a.items.length ≤ 1000000) (hn : findR (addG r g) n i = none) :
   PCB Try.prog env0 36 (.imm (gzv g) :: ptrs4) (knB r n i zC) [.imm (.bool false)] (knB (addG r g) n i zC) := by
 have hAd := add_pcb r g hl hA
 have hF := find_pcb (addG r g) n i hm hs
 rw [hn] at hF
 unfold gzv at hAd ⊢
 generalize addG r g = R at *
 refine PCB.of_va (T := tbr0) eqs_ok tbr_ok rfl mixed Try.func36 rfl rfl rfl (Nat.le_of_ble_eq_true rfl) rfl ?_; intro Γ C WK LP fin h0 hk0 hW hC hB hR hLP hfin
 have h03 : Γ.n0 = 7 := h0
 (try (conv => whnf)); (repeat ((first | refine qT ?_ | refine qF ?_ | refine qO ?_ | (with_reducible intro z hz); (first | (replace hz := hz (by omega); subst hz) | subst hz)); (try (conv => whnf))))
 refine CallB.mk ([]) (rgC R) (hB _ _ _ _ _ (hAd)) ?_
 (try (conv => whnf)); (repeat ((first | refine qT ?_ | refine qF ?_ | refine qO ?_ | (with_reducible intro z hz); (first | (replace hz := hz (by omega); subst hz) | subst hz)); (try (conv => whnf))))
 refine CallB.mk ([.imm eivZ, .imm (.bool false)]) (rgC R) (hB _ _ _ _ _ (hF)) ?_
 (try (conv => whnf)); (repeat ((first | refine qT ?_ | refine qF ?_ | refine qO ?_ | (with_reducible intro z hz); (first | (replace hz := hz (by omega); subst hz) | subst hz)); (try (conv => whnf))))
 exact hfin _ (qSL 7 rfl rfl)
theorem knE_none (K : Ei) (r : Rg) (g : Gz) (n i : Int) (hl : g.acts.length ≤ 1000000) (hA : ∀ a ∈ g.acts, SmA a) (hm : OkC' (addG r g).cors) (hs : ∀ a, lookL (addG r g).acts n = some a → a.items.length ≤ 1000000) (hn : findR (addG r g) n i = none) :
   PCB Try.prog env0 36 (.imm (gzv g) :: ptrs4) (knB r n i (eiC K)) [.imm (.bool false)] (knB (addG r g) n i (eiC K)) := by
 have hAd := add_pcb r g hl hA
 have hF := find_pcb (addG r g) n i hm hs
 rw [hn] at hF
 unfold gzv at hAd ⊢
 generalize addG r g = R at *
 refine PCB.of_va (T := tbr0) eqs_ok tbr_ok rfl mixed Try.func36 rfl rfl rfl (Nat.le_of_ble_eq_true rfl) rfl ?_; intro Γ C WK LP fin h0 hk0 hW hC hB hR hLP hfin
 have h03 : Γ.n0 = 7 := h0
 (try (conv => whnf)); (repeat ((first | refine qT ?_ | refine qF ?_ | refine qO ?_ | (with_reducible intro z hz); (first | (replace hz := hz (by omega); subst hz) | subst hz)); (try (conv => whnf))))
 refine CallB.mk ([]) (rgC R) (hB _ _ _ _ _ (hAd)) ?_
 (try (conv => whnf)); (repeat ((first | refine qT ?_ | refine qF ?_ | refine qO ?_ | (with_reducible intro z hz); (first | (replace hz := hz (by omega); subst hz) | subst hz)); (try (conv => whnf))))
 refine CallB.mk ([.imm eivZ, .imm (.bool false)]) (rgC R) (hB _ _ _ _ _ (hF)) ?_
 (try (conv => whnf)); (repeat ((first | refine qT ?_ | refine qF ?_ | refine qO ?_ | (with_reducible intro z hz); (first | (replace hz := hz (by omega); subst hz) | subst hz)); (try (conv => whnf))))
 exact hfin _ (qSL 7 rfl rfl)
theorem knE_some (K e : Ei) (r : Rg) (g : Gz) (n i : Int) (hl : g.acts.length ≤ 1000000) (hA : ∀ a ∈ g.acts, SmA a) (hm : OkC' (addG r g).cors) (hs : ∀ a, lookL (addG r g).acts n = some a → a.items.length ≤ 1000000) (hn : findR (addG r g) n i = some e) (hK : CpI K.it) (he : CpI e.it) :
   PCB Try.prog env0 36 (.imm (gzv g) :: ptrs4) (knB r n i (eiC K)) [.imm (.bool (decide (e.it = K.it)))] (knB (addG r g) n i (eiC K)) := by
 have hAd := add_pcb r g hl hA
 have hF := find_pcb (addG r g) n i hm hs
 rw [hn] at hF
 have hE := equalI_pc e.it he K.it hK
 rw [itv_eq e.it, itv_eq K.it] at hE
 generalize decide (e.it = K.it) = b at *
 unfold gzv at hAd ⊢
 generalize addG r g = R at *
 refine PCB.of_va (T := tbr0) eqs_ok tbr_ok rfl mixed Try.func36 rfl rfl rfl (Nat.le_of_ble_eq_true rfl) rfl ?_; intro Γ C WK LP fin h0 hk0 hW hC hB hR hLP hfin
 have h03 : Γ.n0 = 7 := h0
 (try (conv => whnf)); (repeat ((first | refine qT ?_ | refine qF ?_ | refine qO ?_ | (with_reducible intro z hz); (first | (replace hz := hz (by omega); subst hz) | subst hz)); (try (conv => whnf))))
 refine CallB.mk ([]) (rgC R) (hB _ _ _ _ _ (hAd)) ?_
 (try (conv => whnf)); (repeat ((first | refine qT ?_ | refine qF ?_ | refine qO ?_ | (with_reducible intro z hz); (first | (replace hz := hz (by omega); subst hz) | subst hz)); (try (conv => whnf))))
 refine CallB.mk ([.imm (eiv e), .imm (.bool true)]) (rgC R) (hB _ _ _ _ _ (hF)) ?_
 rw [eiv_eq e]
 (try (conv => whnf)); (repeat ((first | refine qT ?_ | refine qF ?_ | refine qO ?_ | (with_reducible intro z hz); (first | (replace hz := hz (by omega); subst hz) | subst hz) | (refine CallV.mk _ (hC _ _ _ (PCw.of hE)) (fun js hjs => ?_); subst hjs)); (try (conv => whnf))))
 exact hfin _ (qSL 7 rfl rfl)
end Go.Proofs.Ytglkpmhamekpmaa.Po
namespace Go.Proofs.Ytglkpmhamekpmaa.Po
open Go Go.Pv Go.RowKit
set_option linter.unusedSimpArgs false
open Lab Lcs Go.Proofs.Ytglkpmhamekpmaa Go.Proofs.Ytglkpmhamekpmaa.Pu
set_option maxRecDepth 10000
set_option maxHeartbeats 32000000
theorem acts_addA {r : Rg} {n : Int} {a : Ac} (h : lookL r.acts n = some a) (b : Ac) : lookL (addA r b).acts n = some a := by
 unfold addA
 cases hb : lookL r.acts b.num with
 | some c => exact h
 | none =>
   dsimp only
   rw [lookL_put]
   rw [if_neg]
   · exact h
   · intro e
     rw [e, h] at hb
     cases hb
theorem acts_foldA {n : Int} {a : Ac} : ∀ (l : List Ac) {r : Rg}, lookL r.acts n = some a → lookL (l.foldl addA r).acts n = some a
 | [], _, h => h
 | b :: l, _, h => acts_foldA l (acts_addA h b)
theorem acts_foldG {n : Int} {a : Ac} : ∀ (l : List Gz) {r : Rg}, lookL r.acts n = some a → lookL (l.foldl addG r).acts n = some a
 | [], _, h => h
 | g :: l, _, h => acts_foldG l (acts_foldA g.acts h)
theorem acts_mono {l : List Gz} {n : Int} {a : Ac} {k : Nat} (h : lookL (regO (l.take k)).acts n = some a) : lookL (regO l).acts n = some a := by
 have := acts_foldG (l.drop k) h
 unfold regO at this ⊢
 rwa [← List.foldl_append, List.take_append_drop] at this
theorem findR_some {r : Rg} {n i : Int} {e : Ei} (h : findR r n i = some e) : ∃ a, lookL r.acts n = some a ∧ e.act = n ∧ e.item = i ∧ e.day = a.day ∧ 0 ≤ i ∧ i.toNat < a.items.length := by
 unfold findR at h
 cases hl : lookL r.acts n with
 | none => rw [hl] at h; cases h
 | some a =>
   rw [hl] at h
   dsimp only at h
   by_cases h0 : 0 ≤ i
   · rw [if_pos h0] at h
     cases hx : a.items[i.toNat]? with
     | none => rw [hx] at h; cases h
     | some x =>
       rw [hx] at h
       injection h with h
       subst h
       exact ⟨a, rfl, rfl, rfl, rfl, h0, (List.getElem?_eq_some_iff.1 hx).1⟩
   · rw [if_neg h0] at h; cases h
theorem findR_is {r : Rg} {n i : Int} {a : Ac} (h : lookL r.acts n = some a) (h0 : 0 ≤ i) (hl : i.toNat < a.items.length) : ∃ e, findR r n i = some e := by
 unfold findR
 rw [h]
 dsimp only
 rw [if_pos h0, List.getElem?_eq_getElem hl]
 exact ⟨_, rfl⟩
theorem findR_pre {l : List Gz} {k : Nat} {n i : Int} {e : Ei} (h : findR (regO (l.take k)) n i = some e) : ∃ d, findR (regO l) n i = some d ∧ e.act = d.act ∧ e.item = d.item ∧ e.day = d.day := by
 obtain ⟨a, h1, h2, h3, h4, h5, h6⟩ := findR_some h
 have hm := acts_mono h1
 obtain ⟨d, hd⟩ := findR_is hm h5 h6
 obtain ⟨b, g1, g2, g3, g4, _, _⟩ := findR_some hd
 rw [hm] at g1
 injection g1 with g1
 subst g1
 exact ⟨d, hd, by rw [h2, g2], by rw [h3, g3], by rw [h4, g4]⟩
def IsSince (l : List Gz) (n i : Int) (k : Nat) : Prop := match findL (deeds l) n i with
 | none => k = 0
 | some d => 1 ≤ k ∧ k ≤ l.length ∧ findL (deeds (l.take k)) n i = some d ∧ ∀ j, j < k → findL (deeds (l.take j)) n i ≠ some d
theorem least {p : Nat → Prop} : ∀ n, p n → ∃ k, k ≤ n ∧ p k ∧ ∀ j, j < k → ¬ p j := by
 intro n
 induction n using Nat.strongRecOn with
 | _ n ih =>
   intro hn
   by_cases h : ∃ j, j < n ∧ p j
   · obtain ⟨j, hj, hp⟩ := h
     obtain ⟨k, h1, h2, h3⟩ := ih j hj hp
     exact ⟨k, by omega, h2, h3⟩
   · exact ⟨n, Nat.le_refl _, hn, fun j hj hp => h ⟨j, hj, hp⟩⟩
theorem deeds_nil : deeds [] = [] := rfl
theorem isSince_ex (l : List Gz) (n i : Int) : ∃ k, IsSince l n i k := by
 unfold IsSince
 cases hf : findL (deeds l) n i with
 | none => exact ⟨0, rfl⟩
 | some d =>
   obtain ⟨k, h1, h2, h3⟩ := least (p := fun k => findL (deeds (l.take k)) n i = some d) l.length (by rw [List.take_length]; exact hf)
   refine ⟨k, ?_, h1, h2, h3⟩
   rcases Nat.eq_zero_or_pos k with rfl | hk
   · rw [List.take_zero, deeds_nil] at h2; cases h2
   · exact hk
theorem IsSince.le {l : List Gz} {n i : Int} {k : Nat} (h : IsSince l n i k) : k ≤ l.length := by
 unfold IsSince at h
 cases hf : findL (deeds l) n i with
 | none => rw [hf] at h; omega
 | some d => rw [hf] at h; exact h.2.1
theorem idxZ_pcb (l : List Gz) (n i : Int) (hl : l.length ≤ 1000000000) (hc : ∀ (k : Nat) g, l[k]? = some g → PCB Try.prog env0 36 (.imm (gzv g) :: ptrs4) (knB (regO (l.take k)) n i zC) [.imm (.bool false)] (knB (regO (l.take (k + 1))) n i zC)) :
   PCB Try.prog env0 35 [.imm (.sl 4 (l.map gzv)), .clo 36 ptrs4] (knB (regO (l.take 0)) n i zC) [.imm (.int .i64 (-1))] (knB (regO (l.take l.length)) n i zC) := by
 have hml : (l.map gzv).length = l.length := List.length_map _
 refine PCB.of_va (T := tbr0) eqs_ok tbr_ok rfl mixed Try.func35 rfl rfl rfl (Nat.le_of_ble_eq_true rfl) rfl ?_; intro Γ C WK LP fin h0 hk0 hW hC hB hR hLP hfin
 have h03 : Γ.n0 = 7 := h0
 (try (conv => whnf)); (repeat ((first | refine qT ?_ | refine qF ?_ | refine qO ?_ | (with_reducible intro z hz); (first | (replace hz := hz (by omega); subst hz) | subst hz)); (try (conv => whnf))))
 refine hLP _ _ _ Nat (fun k => ⟨[(0, .imm (.sl 4 (l.map gzv))), (1, .clo 36 ptrs4), (7, .imm (.int .i64 (l.length : Nat))), (8, .imm (.int .i64 (k : Nat)))], knB (regO (l.take k)) n i zC⟩) (fun k => k ≤ l.length) (fun k => l.length - k) 0 (Nat.zero_le _) (qSL 7 rfl rfl (hE := by (repeat ((conv => whnf); first | exact trivial | refine And.intro (by first | exact WkOne.any | exact WkOne.eq (by with_reducible rfl) rfl | exact WkOne.eq (congrArg (fun z => PV.imm (IV.int IntKind.i64 z)) (by first | omega | (simp [hml]; done) | (simp [hml]; omega))) rfl | exact WkOne.eq (by first | (simp [hml]; done) | fail) rfl | exact WkOne.eq rfl rfl | exact WkOne.le rfl (ILe.nil _)) ?_)))) ?_
 intro k hk
 have hho := Nat.lt_or_ge k l.length
 cases hho with
 | inl hlt =>
   refine (?_ : ∀ Q : Exit → AS → Prop, vcS _ _ _ _ _ _ _ (loopQA _ _ _ _ _ _ Q)) _; intro Q
   obtain ⟨x, hx⟩ : ∃ x, l[k]? = some x := ⟨l[k], List.getElem?_eq_getElem hlt⟩
   have hI := hc k x hx
   unfold gzv at hI
   have hrw : regO (l.take (k + 1)) = regO (l.take (k + 1)) := rfl
   generalize regO (l.take k) = R at *
   generalize hR' : regO (l.take (k + 1)) = R' at *
   (try (conv => whnf)); (repeat ((first | refine qT ?_ | refine qF ?_ | refine qO ?_ | (with_reducible intro z hz); (first | (replace hz := hz (by omega); subst hz) | subst hz)); (try (conv => whnf))))
   refine Idx.mk k (gzv x) _ rfl (by simp [hx]) rfl ?_
   (try (conv => whnf)); (repeat ((first | refine qT ?_ | refine qF ?_ | refine qO ?_ | (with_reducible intro z hz); (first | (replace hz := hz (by omega); subst hz) | subst hz)); (try (conv => whnf))))
   refine CallB.mk ([.imm (.bool false)]) (knC R' n i zC) (hB _ _ _ _ _ (hI)) ?_
   (try (conv => whnf)); (repeat ((first | refine qT ?_ | refine qF ?_ | refine qO ?_ | (with_reducible intro z hz); (first | (replace hz := hz (by omega); subst hz) | subst hz)); (try (conv => whnf))))
   exact ⟨k + 1, by omega, by dsimp only; omega, by
     dsimp only []
     rw [hR']
     exact (qSL 7 rfl rfl)⟩
 | inr hge =>
   obtain rfl : k = l.length := by omega
   (try (conv => whnf)); (repeat ((first | refine qT ?_ | refine qF ?_ | refine qO ?_ | (with_reducible intro z hz); (first | (replace hz := hz (by omega); subst hz) | subst hz)); (try (conv => whnf))))
   exact hfin _ (qSL 7 rfl rfl)
theorem idxE_pcb (K : Ei) (q : Nat → Bool) (l : List Gz) (n i : Int) (hl : l.length ≤ 1000000000) (hc : ∀ (k : Nat) g, l[k]? = some g → PCB Try.prog env0 36 (.imm (gzv g) :: ptrs4) (knB (regO (l.take k)) n i (eiC K)) [.imm (.bool (q k))] (knB (regO (l.take (k + 1))) n i (eiC K))) (kk : Nat) (hkk : kk < l.length) (hq : q kk = true) (hno : ∀ j, j < kk → q j = false) :
   PCB Try.prog env0 35 [.imm (.sl 4 (l.map gzv)), .clo 36 ptrs4] (knB (regO (l.take 0)) n i (eiC K)) [.imm (.int .i64 (kk : Nat))] (knB (regO (l.take (kk + 1))) n i (eiC K)) := by
 have hml : (l.map gzv).length = l.length := List.length_map _
 refine PCB.of_va (T := tbr0) eqs_ok tbr_ok rfl mixed Try.func35 rfl rfl rfl (Nat.le_of_ble_eq_true rfl) rfl ?_; intro Γ C WK LP fin h0 hk0 hW hC hB hR hLP hfin
 have h03 : Γ.n0 = 7 := h0
 (try (conv => whnf)); (repeat ((first | refine qT ?_ | refine qF ?_ | refine qO ?_ | (with_reducible intro z hz); (first | (replace hz := hz (by omega); subst hz) | subst hz)); (try (conv => whnf))))
 refine hLP _ _ _ Nat (fun k => ⟨[(0, .imm (.sl 4 (l.map gzv))), (1, .clo 36 ptrs4), (7, .imm (.int .i64 (l.length : Nat))), (8, .imm (.int .i64 (k : Nat)))], knB (regO (l.take k)) n i (eiC K)⟩) (fun k => k ≤ kk) (fun k => l.length - k) 0 (Nat.zero_le _) (qSL 7 rfl rfl (hE := by (repeat ((conv => whnf); first | exact trivial | refine And.intro (by first | exact WkOne.any | exact WkOne.eq (by with_reducible rfl) rfl | exact WkOne.eq (congrArg (fun z => PV.imm (IV.int IntKind.i64 z)) (by first | omega | (simp [hml]; done) | (simp [hml]; omega))) rfl | exact WkOne.eq (by first | (simp [hml]; done) | fail) rfl | exact WkOne.eq rfl rfl | exact WkOne.le rfl (ILe.nil _)) ?_)))) ?_
 intro k hk
 obtain ⟨x, hx⟩ : ∃ x, l[k]? = some x := ⟨l[k], List.getElem?_eq_getElem (by omega)⟩
 have hI := hc k x hx
 unfold gzv at hI
 by_cases hlt : k < kk
 · rw [hno k hlt] at hI
   refine (?_ : ∀ Q : Exit → AS → Prop, vcS _ _ _ _ _ _ _ (loopQA _ _ _ _ _ _ Q)) _; intro Q
   generalize regO (l.take k) = R at *
   generalize hR' : regO (l.take (k + 1)) = R' at *
   (try (conv => whnf)); (repeat ((first | refine qT ?_ | refine qF ?_ | refine qO ?_ | (with_reducible intro z hz); (first | (replace hz := hz (by omega); subst hz) | subst hz)); (try (conv => whnf))))
   refine Idx.mk k (gzv x) _ rfl (by simp [hx]) rfl ?_
   (try (conv => whnf)); (repeat ((first | refine qT ?_ | refine qF ?_ | refine qO ?_ | (with_reducible intro z hz); (first | (replace hz := hz (by omega); subst hz) | subst hz)); (try (conv => whnf))))
   refine CallB.mk ([.imm (.bool false)]) (knC R' n i (eiC K)) (hB _ _ _ _ _ (hI)) ?_
   (try (conv => whnf)); (repeat ((first | refine qT ?_ | refine qF ?_ | refine qO ?_ | (with_reducible intro z hz); (first | (replace hz := hz (by omega); subst hz) | subst hz)); (try (conv => whnf))))
   exact ⟨k + 1, by omega, by dsimp only; omega, by
     dsimp only []
     rw [hR']
     exact (qSL 7 rfl rfl)⟩
 · obtain rfl : k = kk := by omega
   rw [hq] at hI
   generalize regO (l.take k) = R at *
   generalize regO (l.take (k + 1)) = R' at *
   (try (conv => whnf)); (repeat ((first | refine qT ?_ | refine qF ?_ | refine qO ?_ | (with_reducible intro z hz); (first | (replace hz := hz (by omega); subst hz) | subst hz)); (try (conv => whnf))))
   refine Idx.mk k (gzv x) _ rfl (by simp [hx]) rfl ?_
   (try (conv => whnf)); (repeat ((first | refine qT ?_ | refine qF ?_ | refine qO ?_ | (with_reducible intro z hz); (first | (replace hz := hz (by omega); subst hz) | subst hz)); (try (conv => whnf))))
   refine CallB.mk ([.imm (.bool true)]) (knC R' n i (eiC K)) (hB _ _ _ _ _ (hI)) ?_
   (try (conv => whnf)); (repeat ((first | refine qT ?_ | refine qF ?_ | refine qO ?_ | (with_reducible intro z hz); (first | (replace hz := hz (by omega); subst hz) | subst hz)); (try (conv => whnf))))
   exact hfin _ (qSL 7 rfl rfl)
theorem Few30.knownSince {l : List Gz} {m : Nat} (h : Few30 l m) (n i : Int) (k : Nat) (hk : IsSince l n i k) : PC Try.prog env0 17 [.int .i64 n, .int .i64 i, .sl 4 (l.map gzv)] [.int .i64 (k : Nat)] := by
 have hl := h.len
 have hRg := regOf_pcb l (by omega) h.small
 have hg := good_reg h.fit
 have hF := find_pcb (regO l) n i hg.okc (h.hs n)
 have hfe := find_eq l hg n i
 have hst : ∀ (k : Nat) g, l[k]? = some g → regO (l.take (k + 1)) = addG (regO (l.take k)) g := fun k g hx => addG_take hx _
 have hpre := fun (k : Nat) (e : Ei) => findR_pre (l := l) (k := k) (n := n) (i := i) (e := e)
 rw [hfe] at hF hpre
 have hNw := newReg_pcb
 unfold IsSince at hk
 cases hf : findL (Po.deeds l) n i with
 | none =>
   rw [hf] at hF hk hpre
   dsimp only at hk
   subst hk
   have hI := idxZ_pcb l n i (by omega) (fun k g hx => by
     have hg' := good_reg (h.take (k + 1)).fit
     rw [hst k g hx] at hg' ⊢
     obtain ⟨s1, s2⟩ := h.small g (List.mem_of_getElem? hx)
     refine knZ_none _ g n i s1 s2 hg'.okc (fun a ha => (hg'.ok _ (lookL_mem ha)).1) ?_
     rw [← hst k g hx]
     cases hc : findR (regO (l.take (k + 1))) n i with
     | none => rfl
     | some e => obtain ⟨d, hd, _⟩ := hpre _ _ hc; cases hd)
   clear hpre hst hfe
   rw [List.take_length] at hI
   generalize regO l = r at *
   refine PC.of_va (T := (tbrk fun r => Nat.beq r 1 || Nat.beq r 2)) eqs_ok tbr_ok rfl mixed Try.func17 rfl rfl (Nat.le_of_ble_eq_true rfl) ?_; intro Γ C WK LP fin h0 hW hC hB hR hLP hfin
   have h03 : Γ.n0 = 0 := h0
   (try (conv => whnf)); (repeat ((first | refine qT ?_ | refine qF ?_ | refine qO ?_ | (with_reducible intro z hz); (first | (replace hz := hz (by omega); subst hz) | subst hz)); (try (conv => whnf))))
   refine hW _ _ _ (WeakA.spare.trans WeakA.spare) ?_
   (try (conv => whnf)); (repeat ((first | refine qT ?_ | refine qF ?_ | refine qO ?_ | (with_reducible intro z hz); (first | (replace hz := hz (by omega); subst hz) | subst hz)); (try (conv => whnf))))
   refine CallB.mk ([.agg [.row 0 2, .row 1 2, .row 2 2]]) ([.map (.int .i64) 2 (mkL kI acv r.acts), .map (.int .i64) 2 (mkL kI IV.bool r.reps), .map kkC 2 (mkL kv2 eiv r.cors)]) (hB _ _ _ _ _ (hRg)) ?_
   (try (conv => whnf)); (repeat ((first | refine qT ?_ | refine qF ?_ | refine qO ?_ | (with_reducible intro z hz); (first | (replace hz := hz (by omega); subst hz) | subst hz)); (try (conv => whnf))))
   refine CallB.mk ([.imm eivZ, .imm (.bool false)]) (rgC r) (hB _ _ _ _ _ (hF)) ?_
   (try (conv => whnf)); (repeat ((first | refine qT ?_ | refine qF ?_ | refine qO ?_ | (with_reducible intro z hz); (first | (replace hz := hz (by omega); subst hz) | subst hz)); (try (conv => whnf))))
   refine hW _ _ _ (WeakA.spare.trans WeakA.spare) ?_
   (try (conv => whnf)); (repeat ((first | refine qT ?_ | refine qF ?_ | refine qO ?_ | (with_reducible intro z hz); (first | (replace hz := hz (by omega); subst hz) | subst hz)); (try (conv => whnf))))
   refine CallB.mk ([.agg [.row 0 2, .row 1 2, .row 2 2]]) ([.map (.int .i64) 2 [], .map (.int .i64) 2 [], .map kkC 2 []]) (hB _ _ _ _ _ (hNw)) ?_
   (try (conv => whnf)); (repeat ((first | refine qT ?_ | refine qF ?_ | refine qO ?_ | (with_reducible intro z hz); (first | (replace hz := hz (by omega); subst hz) | subst hz)); (try (conv => whnf))))
   refine CallB.mk ([.imm (.int .i64 (-1))]) (knC r n i zC) (hB _ _ _ _ _ (hI)) ?_
   (try (conv => whnf)); (repeat ((first | refine qT ?_ | refine qF ?_ | refine qO ?_ | (with_reducible intro z hz); (first | (replace hz := hz (by omega); subst hz) | subst hz)); (try (conv => whnf))))
   exact hfin _ (ILes.refl _)
 | some d =>
   rw [hf] at hF hk hpre
   dsimp only at hk
   obtain ⟨hk1, hk2, hk3, hk4⟩ := hk
   have hcd := h.findCp hf
   obtain ⟨j, rfl⟩ : ∃ j, k = j + 1 := ⟨k - 1, by omega⟩
   have hpe : ∀ (k : Nat), findR (regO (l.take k)) n i = findL (Po.deeds (l.take k)) n i := fun k => find_eq _ (good_reg (h.take k).fit) n i
   have hI := idxE_pcb d (fun k => match findL (Po.deeds (l.take (k + 1))) n i with
     | none => false
     | some e => decide (e.it = d.it)) l n i (by omega) (fun k g hx => by
     have hg' := good_reg (h.take (k + 1)).fit
     rw [hst k g hx] at hg' ⊢
     obtain ⟨s1, s2⟩ := h.small g (List.mem_of_getElem? hx)
     have hfk := hpe (k + 1)
     cases hc : findL (Po.deeds (l.take (k + 1))) n i with
     | none =>
       rw [hc, hst k g hx] at hfk
       exact knE_none d _ g n i s1 s2 hg'.okc (fun a ha => (hg'.ok _ (lookL_mem ha)).1) hfk
     | some e =>
       have hce := (h.take (k + 1)).findCp hc
       rw [hc, hst k g hx] at hfk
       exact knE_some d e _ g n i s1 s2 hg'.okc (fun a ha => (hg'.ok _ (lookL_mem ha)).1) hfk hcd hce) j (by omega) (by rw [hk3]; simp) (fun q hq => by
     cases hc : findL (Po.deeds (l.take (q + 1))) n i with
     | none => rfl
     | some e =>
       have hne := hk4 (q + 1) (by omega)
       obtain ⟨d', hd, h1, h2, h3⟩ := hpre (q + 1) e (by rw [hpe]; exact hc)
       injection hd with hd
       subst hd
       refine decide_eq_false fun h4 => hne ?_
       rw [hc, Ei.ext' h1 h2 h3 h4])
   clear hpre hst hfe hpe
   generalize regO (l.take (j + 1)) = r' at *
   generalize regO l = r at *
   refine PC.of_va (T := (tbrk fun r => Nat.beq r 1 || Nat.beq r 2)) eqs_ok tbr_ok rfl mixed Try.func17 rfl rfl (Nat.le_of_ble_eq_true rfl) ?_; intro Γ C WK LP fin h0 hW hC hB hR hLP hfin
   have h03 : Γ.n0 = 0 := h0
   (try (conv => whnf)); (repeat ((first | refine qT ?_ | refine qF ?_ | refine qO ?_ | (with_reducible intro z hz); (first | (replace hz := hz (by omega); subst hz) | subst hz)); (try (conv => whnf))))
   refine hW _ _ _ (WeakA.spare.trans WeakA.spare) ?_
   (try (conv => whnf)); (repeat ((first | refine qT ?_ | refine qF ?_ | refine qO ?_ | (with_reducible intro z hz); (first | (replace hz := hz (by omega); subst hz) | subst hz)); (try (conv => whnf))))
   refine CallB.mk ([.agg [.row 0 2, .row 1 2, .row 2 2]]) ([.map (.int .i64) 2 (mkL kI acv r.acts), .map (.int .i64) 2 (mkL kI IV.bool r.reps), .map kkC 2 (mkL kv2 eiv r.cors)]) (hB _ _ _ _ _ (hRg)) ?_
   (try (conv => whnf)); (repeat ((first | refine qT ?_ | refine qF ?_ | refine qO ?_ | (with_reducible intro z hz); (first | (replace hz := hz (by omega); subst hz) | subst hz)); (try (conv => whnf))))
   refine CallB.mk ([.imm (eiv d), .imm (.bool true)]) (rgC r) (hB _ _ _ _ _ (hF)) ?_
   rw [eiv_eq d]
   (try (conv => whnf)); (repeat ((first | refine qT ?_ | refine qF ?_ | refine qO ?_ | (with_reducible intro z hz); (first | (replace hz := hz (by omega); subst hz) | subst hz)); (try (conv => whnf))))
   refine hW _ _ _ (WeakA.spare.trans WeakA.spare) ?_
   (try (conv => whnf)); (repeat ((first | refine qT ?_ | refine qF ?_ | refine qO ?_ | (with_reducible intro z hz); (first | (replace hz := hz (by omega); subst hz) | subst hz)); (try (conv => whnf))))
   refine CallB.mk ([.agg [.row 0 2, .row 1 2, .row 2 2]]) ([.map (.int .i64) 2 [], .map (.int .i64) 2 [], .map kkC 2 []]) (hB _ _ _ _ _ (hNw)) ?_
   (try (conv => whnf)); (repeat ((first | refine qT ?_ | refine qF ?_ | refine qO ?_ | (with_reducible intro z hz); (first | (replace hz := hz (by omega); subst hz) | subst hz)); (try (conv => whnf))))
   refine CallB.mk ([.imm (.int .i64 (j : Nat))]) (knC r' n i (eiC d)) (hB _ _ _ _ _ (hI)) ?_
   (try (conv => whnf)); (repeat ((first | refine qT ?_ | refine qF ?_ | refine qO ?_ | (with_reducible intro z hz); (first | (replace hz := hz (by omega); subst hz) | subst hz)); (try (conv => whnf))))
   exact hfin _ (by first | exact ILes.refl _ | (rw [show ((j + 1 : Nat) : Int) = 1 + (j : Nat) by omega]; exact ILes.refl _))
end Go.Proofs.Ytglkpmhamekpmaa.Po
