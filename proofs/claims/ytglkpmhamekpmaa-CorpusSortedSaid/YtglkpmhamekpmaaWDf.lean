/-
  Corpus: since when an item is known, by the program.
-/
import Derived.Test.YtglkpmhamekpmaaWDe
namespace Go.Proofs.Ytglkpmhamekpmaa.Po
open Go Go.Pv Go.RowKit
set_option linter.unusedSimpArgs false
open Lab Lcs Go.Proofs.Ytglkpmhamekpmaa Go.Proofs.Ytglkpmhamekpmaa.Pu
set_option maxRecDepth 10000
set_option maxHeartbeats 32000000
abbrev zC : List PV := [.imm (.int .i64 0), .imm (.int .i64 0), .imm (.int .i64 0), .imm (.int .i64 0), .imm .nil, .imm .nil, .imm (.int .i64 0), .imm (.int .i64 0), .imm (.int .i64 0), .imm (.int .i64 0), .imm (.int .i64 0), .imm (.int .i64 0), .imm (.str ⟨#[]⟩), .imm .nil, .imm .nil, .imm .nil, .imm .nil, .imm .nil, .imm (.str ⟨#[]⟩), .imm (.str ⟨#[]⟩), .imm (.int .i64 0), .imm (.int .i64 0), .imm (.str ⟨#[]⟩), .imm (.int .i64 0), .imm (.int .i64 0), .imm (.int .i64 0), .imm (.str ⟨#[]⟩), .imm .nil]
abbrev eiC (e : Ei) : List PV := [.imm (.int .i64 e.act), .imm (.int .i64 e.item), .imm (.int .i64 e.day), .imm (.int .i64 e.it.kind), .imm (.sl 2 (e.it.p.map spv)), .imm (.sl 2 (e.it.q.map spv)), .imm (.int .i64 e.it.z), .imm (.int .i64 e.it.nth), .imm (.int .i64 e.it.unit.id.x), .imm (.int .i64 e.it.unit.id.y), .imm (.int .i64 e.it.unit.id.z), .imm (.int .i64 e.it.unit.kind), .imm (.str e.it.unit.label), .imm (.sl 4 (e.it.unit.head.map wdv)), .imm (.sl 4 (e.it.unit.words.map wdv)), .imm (.sl 8 (e.it.unit.kids.map uv)), .imm (.sl 1 (e.it.old.map IV.str)), .imm (.sl 1 (e.it.new.map IV.str)), .imm (.str e.it.lb), .imm (.str e.it.fr), .imm (.int .i64 e.it.sk), .imm (.int .i64 e.it.sd), .imm (.str e.it.se), .imm (.int .i64 e.it.a), .imm (.int .i64 e.it.i), .imm (.int .i64 e.it.d), .imm (.str e.it.ev), .imm (.sl 25 (e.it.bys.map itv))]
abbrev knB (r : Rg) (n i : Int) (kc : List PV) : List Blk := [.box 1 [.row 4 1, .row 5 1, .row 6 1], .box 1 [.imm (.int .i64 n)], .box 1 [.imm (.int .i64 i)], .box 1 kc, .map (.int .i64) 1 (mkL kI acv r.acts), .map (.int .i64) 1 (mkL kI IV.bool r.reps), .map kkC 1 (mkL kv2 eiv r.cors)]
abbrev knC (r : Rg) (n i : Int) (kc : List PV) : List CBk := [.box 1 [.row 4 1, .row 5 1, .row 6 1], .box 1 [.imm (.int .i64 n)], .box 1 [.imm (.int .i64 i)], .box 1 kc, .map (.int .i64) 1 (mkL kI acv r.acts), .map (.int .i64) 1 (mkL kI IV.bool r.reps), .map kkC 1 (mkL kv2 eiv r.cors)]
abbrev ptrs4 : List PV := [.ptr 0 1 0, .ptr 1 1 0, .ptr 2 1 0, .ptr 3 1 0]
theorem knZ_none (r : Rg) (g : Gz) (n i : Int) (hl : g.acts.length ≤ 1000000) (hA : ∀ a ∈ g.acts, SmA a) (hm : OkC' (addG r g).cors) (hs : ∀ a, lookL (addG r g).acts n = some a → a.items.length ≤ 1000000) (hn : findR (addG r g) n i = none) :
   PCB Try.prog env0 36 (.imm (gzv g) :: ptrs4) (knB r n i zC) [.imm (.bool false)] (knB (addG r g) n i zC) := by
 have hAd := add_pcb r g hl hA
 have hF := find_pcb (addG r g) n i hm hs
 rw [hn] at hF
 unfold gzv at hAd ⊢
 generalize addG r g = R at *
 refine PCB.of_va (T := tbr0) eqs_ok tbr_ok rfl mixed Try.func36 rfl rfl rfl (Nat.le_of_ble_eq_true rfl) rfl ?_; intro Γ C WK LP fin h0 hk0 hW hC hB hR hLP hfin
 have h03 : Γ.n0 = 7 := h0
 (try (conv => whnf)); (repeat ((first | refine qT ?_ | refine qF ?_ | refine qO ?_ | (with_reducible intro z hz); (first | (replace hz := hz (by omega); subst hz) | subst hz)); (try (conv => whnf))))
 refine CallB.mk ([]) (rgC R) (hB _ _ _ _ _ (hAd)) ?_
 (try (conv => whnf)); (repeat ((first | refine qT ?_ | refine qF ?_ | refine qO ?_ | (with_reducible intro z hz); (first | (replace hz := hz (by omega); subst hz) | subst hz)); (try (conv => whnf))))
 refine CallB.mk ([.imm eivZ, .imm (.bool false)]) (rgC R) (hB _ _ _ _ _ (hF)) ?_
 (try (conv => whnf)); (repeat ((first | refine qT ?_ | refine qF ?_ | refine qO ?_ | (with_reducible intro z hz); (first | (replace hz := hz (by omega); subst hz) | subst hz)); (try (conv => whnf))))
 exact hfin _ (qSL 7 rfl rfl)
theorem knE_none (K : Ei) (r : Rg) (g : Gz) (n i : Int) (hl : g.acts.length ≤ 1000000) (hA : ∀ a ∈ g.acts, SmA a) (hm : OkC' (addG r g).cors) (hs : ∀ a, lookL (addG r g).acts n = some a → a.items.length ≤ 1000000) (hn : findR (addG r g) n i = none) :
   PCB Try.prog env0 36 (.imm (gzv g) :: ptrs4) (knB r n i (eiC K)) [.imm (.bool false)] (knB (addG r g) n i (eiC K)) := by
 have hAd := add_pcb r g hl hA
 have hF := find_pcb (addG r g) n i hm hs
 rw [hn] at hF
 unfold gzv at hAd ⊢
 generalize addG r g = R at *
 refine PCB.of_va (T := tbr0) eqs_ok tbr_ok rfl mixed Try.func36 rfl rfl rfl (Nat.le_of_ble_eq_true rfl) rfl ?_; intro Γ C WK LP fin h0 hk0 hW hC hB hR hLP hfin
 have h03 : Γ.n0 = 7 := h0
 (try (conv => whnf)); (repeat ((first | refine qT ?_ | refine qF ?_ | refine qO ?_ | (with_reducible intro z hz); (first | (replace hz := hz (by omega); subst hz) | subst hz)); (try (conv => whnf))))
 refine CallB.mk ([]) (rgC R) (hB _ _ _ _ _ (hAd)) ?_
 (try (conv => whnf)); (repeat ((first | refine qT ?_ | refine qF ?_ | refine qO ?_ | (with_reducible intro z hz); (first | (replace hz := hz (by omega); subst hz) | subst hz)); (try (conv => whnf))))
 refine CallB.mk ([.imm eivZ, .imm (.bool false)]) (rgC R) (hB _ _ _ _ _ (hF)) ?_
 (try (conv => whnf)); (repeat ((first | refine qT ?_ | refine qF ?_ | refine qO ?_ | (with_reducible intro z hz); (first | (replace hz := hz (by omega); subst hz) | subst hz)); (try (conv => whnf))))
 exact hfin _ (qSL 7 rfl rfl)
theorem knE_some (K e : Ei) (r : Rg) (g : Gz) (n i : Int) (hl : g.acts.length ≤ 1000000) (hA : ∀ a ∈ g.acts, SmA a) (hm : OkC' (addG r g).cors) (hs : ∀ a, lookL (addG r g).acts n = some a → a.items.length ≤ 1000000) (hn : findR (addG r g) n i = some e) (hK : CpI K.it) (he : CpI e.it) :
   PCB Try.prog env0 36 (.imm (gzv g) :: ptrs4) (knB r n i (eiC K)) [.imm (.bool (decide (e.it = K.it)))] (knB (addG r g) n i (eiC K)) := by
 have hAd := add_pcb r g hl hA
 have hF := find_pcb (addG r g) n i hm hs
 rw [hn] at hF
 have hE := equalI_pc e.it he K.it hK
 rw [itv_eq e.it, itv_eq K.it] at hE
 generalize decide (e.it = K.it) = b at *
 unfold gzv at hAd ⊢
 generalize addG r g = R at *
 refine PCB.of_va (T := tbr0) eqs_ok tbr_ok rfl mixed Try.func36 rfl rfl rfl (Nat.le_of_ble_eq_true rfl) rfl ?_; intro Γ C WK LP fin h0 hk0 hW hC hB hR hLP hfin
 have h03 : Γ.n0 = 7 := h0
 (try (conv => whnf)); (repeat ((first | refine qT ?_ | refine qF ?_ | refine qO ?_ | (with_reducible intro z hz); (first | (replace hz := hz (by omega); subst hz) | subst hz)); (try (conv => whnf))))
 refine CallB.mk ([]) (rgC R) (hB _ _ _ _ _ (hAd)) ?_
 (try (conv => whnf)); (repeat ((first | refine qT ?_ | refine qF ?_ | refine qO ?_ | (with_reducible intro z hz); (first | (replace hz := hz (by omega); subst hz) | subst hz)); (try (conv => whnf))))
 refine CallB.mk ([.imm (eiv e), .imm (.bool true)]) (rgC R) (hB _ _ _ _ _ (hF)) ?_
 rw [eiv_eq e]
 (try (conv => whnf)); (repeat ((first | refine qT ?_ | refine qF ?_ | refine qO ?_ | (with_reducible intro z hz); (first | (replace hz := hz (by omega); subst hz) | subst hz) | (refine CallV.mk _ (hC _ _ _ (PCw.of hE)) (fun js hjs => ?_); subst hjs)); (try (conv => whnf))))
 exact hfin _ (qSL 7 rfl rfl)
end Go.Proofs.Ytglkpmhamekpmaa.Po
