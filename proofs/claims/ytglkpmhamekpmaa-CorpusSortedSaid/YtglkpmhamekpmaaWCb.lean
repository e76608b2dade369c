/-
  Corpus: copies of instructions; the enacted items of an act.
-/
import Derived.Test.YtglkpmhamekpmaaWCa
namespace Go.Proofs.Ytglkpmhamekpmaa.Po
open Go Go.Pv Go.RowKit
set_option linter.unusedSimpArgs false
open Lab Lcs Go.Proofs.Ytglkpmhamekpmaa Go.Proofs.Ytglkpmhamekpmaa.Pu
set_option maxRecDepth 10000
set_option maxHeartbeats 32000000
inductive CpI : It → Prop
 | mk (x : It) (hu : CpU x.unit) (h : x.p.length ≤ 1000000000 ∧ x.q.length ≤ 1000000000 ∧ x.old.length ≤ 1000000000 ∧ x.new.length ≤ 1000000000 ∧ x.bys.length ≤ 1000000000) (hk : ∀ y ∈ x.bys, CpI y) : CpI x
theorem copyItem_pc (x : It) (hx0 : CpI x) : PC Try.prog env0 50 [itv x] [itv x] := by
 induction hx0 with
 | mk x hu h hk ih =>
 obtain ⟨h1, h2, h3, h4, h5⟩ := h
 have hS1 := (cloneS_pcr (X := env0) (x.p.map spv) (by simpa using h1)).pc
 have hS2 := (cloneS_pcr (X := env0) (x.q.map spv) (by simpa using h2)).pc
 have hT1 := (cloneT_pcr (X := env0) (x.old.map IV.str) (by simpa using h3)).pc
 have hT2 := (cloneT_pcr (X := env0) (x.new.map IV.str) (by simpa using h4)).pc
 have hI1 := cloneI_pcr (X := env0) (x.bys.map itv) (by simpa using h5)
 have hU1 := copyUnit_pc x.unit hu
 rw [uv_eq x.unit] at hU1
 have hml : (x.bys.map itv).length = x.bys.length := List.length_map _
 have hml2 : ((x.bys.map itv).map PV.imm).length = x.bys.length := by simp
 rw [itv_eq x]
 refine PC.of_va (T := (tbf fun r => match r with | 9 => [7] | _ => [])) eqs_ok tb_ok rfl mixed Try.func50 rfl rfl (Nat.le_of_ble_eq_true rfl) ?_; intro Γ C WK LP fin h0 hW hC hB hR hLP hfin
 (try (conv => whnf)); (repeat ((first | refine qT ?_ | refine qF ?_ | refine qO ?_ | (with_reducible intro z hz); (first | (replace hz := hz (by omega); subst hz) | subst hz) | (refine CallV.mk _ (hC _ _ _ (PCw.of hS1)) (fun js hjs => ?_); subst hjs) | (refine CallV.mk _ (hC _ _ _ (PCw.of hS2)) (fun js hjs => ?_); subst hjs) | (refine CallV.mk _ (hC _ _ _ (PCw.of hT1)) (fun js hjs => ?_); subst hjs) | (refine CallV.mk _ (hC _ _ _ (PCw.of hT2)) (fun js hjs => ?_); subst hjs) | (refine CallV.mk _ (hC _ _ _ (PCw.of hU1)) (fun js hjs => ?_); subst hjs)); (try (conv => whnf))))
 refine CallV.row _ _ _ (hR _ _ _ _ _ (PCRw.of (hI1))) (fun js hjs => ?_); subst hjs
 (try (conv => whnf)); (repeat ((first | refine qT ?_ | refine qF ?_ | refine qO ?_ | (with_reducible intro z hz); (first | (replace hz := hz (by omega); subst hz) | subst hz)); (try (conv => whnf))))
 refine hLP _ _ _ Nat (fun k => ⟨[(1, .ptr 0 1 0), (2, .ptr 1 1 0), (30, .imm (.int .i64 (x.bys.length : Nat))), (31, .imm (.int .i64 (k : Nat)))], [.box 1 [.imm (.int .i64 x.kind), .imm (.sl 2 (x.p.map spv)), .imm (.sl 2 (x.q.map spv)), .imm (.int .i64 x.z), .imm (.int .i64 x.nth), .imm (.int .i64 x.unit.id.x), .imm (.int .i64 x.unit.id.y), .imm (.int .i64 x.unit.id.z), .imm (.int .i64 x.unit.kind), .imm (.str x.unit.label), .imm (.sl 4 (x.unit.head.map wdv)), .imm (.sl 4 (x.unit.words.map wdv)), .imm (.sl 8 (x.unit.kids.map uv)), .imm (.sl 1 (x.old.map IV.str)), .imm (.sl 1 (x.new.map IV.str)), .imm (.str x.lb), .imm (.str x.fr), .imm (.int .i64 x.sk), .imm (.int .i64 x.sd), .imm (.str x.se), .imm (.int .i64 x.a), .imm (.int .i64 x.i), .imm (.int .i64 x.d), .imm (.str x.ev), .row 7 1], .box 1 [.imm (.int .i64 0), .imm .nil, .imm .nil, .imm (.int .i64 0), .imm (.int .i64 0), .imm (.int .i64 0), .imm (.int .i64 0), .imm (.int .i64 0), .imm (.int .i64 0), .imm (.str ⟨#[]⟩), .imm .nil, .imm .nil, .imm .nil, .imm .nil, .imm .nil, .imm (.str ⟨#[]⟩), .imm (.str ⟨#[]⟩), .imm (.int .i64 0), .imm (.int .i64 0), .imm (.str ⟨#[]⟩), .imm (.int .i64 0), .imm (.int .i64 0), .imm (.int .i64 0), .imm (.str ⟨#[]⟩), .imm .nil], .dead 0, .dead 0, .dead 0, .dead 0, .dead 0, .row 42 25 1 ((x.bys.map itv).map .imm)]⟩) (fun k => k ≤ x.bys.length) (fun k => x.bys.length - k) 0 (Nat.zero_le _) (qSL 8 rfl rfl (hE := by (repeat ((conv => whnf); first | exact trivial | refine And.intro (by first | exact WkOne.any | exact WkOne.eq (by with_reducible rfl) rfl | exact WkOne.eq (congrArg (fun z => PV.imm (IV.int IntKind.i64 z)) (by first | omega | (simp [hml]; done) | (simp [hml]; omega))) rfl | exact WkOne.eq (by first | (simp [hml]; done) | fail) rfl | exact WkOne.eq rfl rfl | exact WkOne.le rfl (ILe.nil _)) ?_)))) ?_
 intro k hk2
 have hho := Nat.lt_or_ge k x.bys.length
 cases hho with
 | inl hlt =>
   obtain ⟨y, hy⟩ : ∃ y, x.bys[k]? = some y := ⟨x.bys[k], List.getElem?_eq_getElem hlt⟩
   have hC2 := ih y (List.mem_of_getElem? hy)
   have hrx : ((x.bys.map itv).map PV.imm)[k]? = some (.imm (itv y)) := by simp [hy]
   have hset := set_self hrx
   rw [itv_eq y] at hrx hC2 hset
   (try (conv => whnf)); (repeat ((first | refine qT ?_ | refine qF ?_ | refine qO ?_ | (with_reducible intro z hz); (first | (replace hz := hz (by omega); subst hz) | subst hz)); (try (conv => whnf))))
   refine Pos.mk k rfl (by omega) ?_
   (try (conv => whnf)); (repeat ((first | refine qT ?_ | refine qF ?_ | refine qO ?_ | (with_reducible intro z hz); (first | (replace hz := hz (by omega); subst hz) | subst hz)); (try (conv => whnf))))
   refine At.mk _ hrx ?_
   (try (conv => whnf)); (repeat ((first | refine qT ?_ | refine qF ?_ | refine qO ?_ | (with_reducible intro z hz); (first | (replace hz := hz (by omega); subst hz) | subst hz) | (refine CallV.mk _ (hC _ _ _ (PCw.of hC2)) (fun js hjs => ?_); subst hjs)); (try (conv => whnf))))
   refine Pos.mk k rfl (by omega) ?_
   (try (conv => whnf)); (repeat ((first | refine qT ?_ | refine qF ?_ | refine qO ?_ | (with_reducible intro z hz); (first | (replace hz := hz (by omega); subst hz) | subst hz)); (try (conv => whnf))))
   refine At.mk _ hrx ?_
   (try (conv => whnf)); (repeat ((first | refine qT ?_ | refine qF ?_ | refine qO ?_ | (with_reducible intro z hz); (first | (replace hz := hz (by omega); subst hz) | subst hz)); (try (conv => whnf))))
   exact ⟨k + 1, by omega, by dsimp only; omega, ((WeakA.row 7 (((x.bys.map itv).map .imm)) rfl (by exact hset)).trans (qSL 8 rfl rfl))⟩
 | inr hge =>
   obtain rfl : k = x.bys.length := by omega
   (try (conv => whnf)); (repeat ((first | refine qT ?_ | refine qF ?_ | refine qO ?_ | (with_reducible intro z hz); (first | (replace hz := hz (by omega); subst hz) | subst hz)); (try (conv => whnf))))
   refine Imms.mk (x.bys.map itv) rfl ?_
   (try (conv => whnf)); (repeat ((first | refine qT ?_ | refine qF ?_ | refine qO ?_ | (with_reducible intro z hz); (first | (replace hz := hz (by omega); subst hz) | subst hz)); (try (conv => whnf))))
   exact hfin _ (ILes.refl _)
end Go.Proofs.Ytglkpmhamekpmaa.Po
