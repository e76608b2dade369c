/-
  Corpus: corrections by the program: whether an item is one, the last one of each reference.
-/
import Derived.Test.YtglkpmhamekpmaaWCc
import Derived.Test.YtglkpmhamekpmaaP7
namespace Go.Proofs.Ytglkpmhamekpmaa.Po
open Go Go.Pv Go.RowKit
set_option linter.unusedSimpArgs false
open Lab Lcs Go.Proofs.Ytglkpmhamekpmaa Go.Proofs.Ytglkpmhamekpmaa.Pu
set_option maxRecDepth 10000
set_option maxHeartbeats 32000000
def imI (x : It) : Im := ⟨x.kind, fun n => ([.nil, .sl 2 (x.p.map spv), .sl 2 (x.q.map spv), .int .i64 x.z, .int .i64 x.nth, .int .i64 x.unit.id.x, .int .i64 x.unit.id.y, .int .i64 x.unit.id.z, .int .i64 x.unit.kind, .str x.unit.label, .sl 4 (x.unit.head.map wdv), .sl 4 (x.unit.words.map wdv), .sl 8 (x.unit.kids.map uv), .sl 1 (x.old.map IV.str), .sl 1 (x.new.map IV.str), .str x.lb, .str x.fr] : List IV).getD n .nil, ⟨x.sk, x.sd, x.se⟩, x.a, x.i, x.d, x.ev, .sl 25 (x.bys.map itv)⟩
def enI (e : Ei) : En := ⟨e.act, e.item, e.day, imI e.it⟩
def legE (a b : Ei) : Int := if cmpZ a.day b.day ≠ 0 then cmpZ a.day b.day else if cmpZ a.act b.act ≠ 0 then cmpZ a.act b.act else cmpZ a.item b.item
theorem compareE_pc (a b : Ei) : PC Try.prog env0 22 [eiv a, eiv b] [.int .i64 (legE a b)] := compare_pc (enI a) (enI b)
theorem eiv_eq (e : Ei) : eiv e = .agg [.int .i64 e.act, .int .i64 e.item, .int .i64 e.day, .int .i64 e.it.kind, .sl 2 (e.it.p.map spv), .sl 2 (e.it.q.map spv), .int .i64 e.it.z, .int .i64 e.it.nth, .int .i64 e.it.unit.id.x, .int .i64 e.it.unit.id.y, .int .i64 e.it.unit.id.z, .int .i64 e.it.unit.kind, .str e.it.unit.label, .sl 4 (e.it.unit.head.map wdv), .sl 4 (e.it.unit.words.map wdv), .sl 8 (e.it.unit.kids.map uv), .sl 1 (e.it.old.map IV.str), .sl 1 (e.it.new.map IV.str), .str e.it.lb, .str e.it.fr, .int .i64 e.it.sk, .int .i64 e.it.sd, .str e.it.se, .int .i64 e.it.a, .int .i64 e.it.i, .int .i64 e.it.d, .str e.it.ev, .sl 25 (e.it.bys.map itv)] := rfl
def chB (k : Int) : Bool := decide (0 ≤ k ∧ k ≤ 6)
theorem isAm_pc (k : Int) : PC Try.prog env0 73 [.int .i64 k] [.bool (chB k)] := by
 unfold chB
 by_cases h1 : 0 ≤ k
 · by_cases h2 : k ≤ 6
   · rw [decide_eq_true ⟨h1, h2⟩]
     refine PC.of_va (T := tb0) eqs_ok tb_ok rfl mixed Try.func73 rfl rfl (Nat.le_of_ble_eq_true rfl) ?_; intro Γ C WK LP fin h0 hW hC hB hR hLP hfin
     (try (conv => whnf)); (repeat ((first | refine qT ?_ | refine qF ?_ | refine qO ?_ | (with_reducible intro z hz); (first | (replace hz := hz (by omega); subst hz) | subst hz)); (try (conv => whnf))))
     exact hfin _ (ILes.refl _)
   · rw [decide_eq_false (fun h => h2 h.2)]
     refine PC.of_va (T := tb0) eqs_ok tb_ok rfl mixed Try.func73 rfl rfl (Nat.le_of_ble_eq_true rfl) ?_; intro Γ C WK LP fin h0 hW hC hB hR hLP hfin
     (try (conv => whnf)); (repeat ((first | refine qT ?_ | refine qF ?_ | refine qO ?_ | (with_reducible intro z hz); (first | (replace hz := hz (by omega); subst hz) | subst hz)); (try (conv => whnf))))
     exact hfin _ (ILes.refl _)
 · rw [decide_eq_false (fun h => h1 h.1)]
   refine PC.of_va (T := tb0) eqs_ok tb_ok rfl mixed Try.func73 rfl rfl (Nat.le_of_ble_eq_true rfl) ?_; intro Γ C WK LP fin h0 hW hC hB hR hLP hfin
   (try (conv => whnf)); (repeat ((first | refine qT ?_ | refine qF ?_ | refine qO ?_ | (with_reducible intro z hz); (first | (replace hz := hz (by omega); subst hz) | subst hz)); (try (conv => whnf))))
   exact hfin _ (ILes.refl _)
def isC (x : It) : Bool := decide (x.kind = 11) && (match x.bys with
 | [] => false
 | y :: _ => chB y.kind)
theorem isC_pc (x : It) : PC Try.prog env0 59 [itv x] [.bool (isC x)] := by
 have hml : (x.bys.map itv).length = x.bys.length := List.length_map _
 rw [itv_eq x]
 by_cases h1 : x.kind = 11
 · cases hb : x.bys with
   | nil =>
     have hi : isC x = false := by unfold isC; rw [hb]; simp
     rw [hi]
     rw [hb] at hml
     refine PC.of_va (T := tb0) eqs_ok tb_ok rfl mixed Try.func59 rfl rfl (Nat.le_of_ble_eq_true rfl) ?_; intro Γ C WK LP fin h0 hW hC hB hR hLP hfin
     (try (conv => whnf)); (repeat ((first | refine qT ?_ | refine qF ?_ | refine qO ?_ | (with_reducible intro z hz); (first | (replace hz := hz (by omega); subst hz) | subst hz)); (try (conv => whnf))))
     exact hfin _ (ILes.refl _)
   | cons y r =>
     have hi : isC x = chB y.kind := by unfold isC; rw [hb, decide_eq_true h1]; simp
     rw [hi]
     have hA := isAm_pc y.kind
     rw [hb] at hml
     have hl0 : 0 < (((y :: r).map itv).length : Int) := by simp
     refine PC.of_va (T := tb0) eqs_ok tb_ok rfl mixed Try.func59 rfl rfl (Nat.le_of_ble_eq_true rfl) ?_; intro Γ C WK LP fin h0 hW hC hB hR hLP hfin
     (try (conv => whnf)); (repeat ((first | refine qT ?_ | refine qF ?_ | refine qO ?_ | (with_reducible intro z hz); (first | (replace hz := hz (by omega); subst hz) | subst hz)); (try (conv => whnf))))
     refine Idx.mk 0 (itv y) _ rfl rfl (by rw [itv_eq y]) ?_
     (try (conv => whnf)); (repeat ((first | refine qT ?_ | refine qF ?_ | refine qO ?_ | (with_reducible intro z hz); (first | (replace hz := hz (by omega); subst hz) | subst hz) | (refine CallV.mk _ (hC _ _ _ (PCw.of hA)) (fun js hjs => ?_); subst hjs)); (try (conv => whnf))))
     exact hfin _ (ILes.refl _)
 · have hi : isC x = false := by unfold isC; rw [decide_eq_false h1]; rfl
   rw [hi]
   refine PC.of_va (T := tb0) eqs_ok tb_ok rfl mixed Try.func59 rfl rfl (Nat.le_of_ble_eq_true rfl) ?_; intro Γ C WK LP fin h0 hW hC hB hR hLP hfin
   (try (conv => whnf)); (repeat ((first | refine qT ?_ | refine qF ?_ | refine qO ?_ | (with_reducible intro z hz); (first | (replace hz := hz (by omega); subst hz) | subst hz)); (try (conv => whnf))))
   exact hfin _ (ILes.refl _)
abbrev kkC : MK := .cells 114 [.int .i64, .int .i64]
abbrev CorM := List ((Int × Int) × Ei)
def refE (d : Ei) : Int × Int := (d.it.a, d.it.i)
def addC (m : CorM) (d : Ei) : CorM := match lookL m (refE d) with
 | none => putL m (refE d) d
 | some e => if 0 < legE d e then putL m (refE d) d else m
abbrev regB (pa pr : List (IV × IV)) (m : CorM) : List Blk := [.map (.int .i64) 1 pa, .map (.int .i64) 1 pr, .map kkC 1 (mkL kv2 eiv m)]
theorem look_cor (m : CorM) (a i : Int) : lookM (mkL kv2 eiv m) (.agg [.int .i64 a, .int .i64 i]) = (lookL m (a, i)).map eiv := look_mkL eqI_kv2 (a, i) m
def z0 : Str := ⟨#[]⟩
def eivZ : IV := .agg [.int .i64 0, .int .i64 0, .int .i64 0, .int .i64 0, .nil, .nil, .int .i64 0, .int .i64 0, .int .i64 0, .int .i64 0, .int .i64 0, .int .i64 0, .str ⟨#[]⟩, .nil, .nil, .nil, .nil, .nil, .str ⟨#[]⟩, .str ⟨#[]⟩, .int .i64 0, .int .i64 0, .str ⟨#[]⟩, .int .i64 0, .int .i64 0, .int .i64 0, .str ⟨#[]⟩, .nil]
theorem addC_pcb (pa pr : List (IV × IV)) (m : CorM) (d : Ei) : PCB Try.prog env0 60 [.agg [.row 0 1, .row 1 1, .row 2 1], .imm (eiv d)] (regB pa pr m) [] (regB pa pr (addC m d)) := by
 have hk := look_cor m d.it.a d.it.i
 have hput : putM (mkL kv2 eiv m) (.agg [.int .i64 d.it.a, .int .i64 d.it.i]) (eiv d) = mkL kv2 eiv (putL m (refE d) d) := put_mkL (vv := eiv) eqI_kv2 (d.it.a, d.it.i) d m
 rw [show (d.it.a, d.it.i) = refE d from rfl] at hk
 cases hl : lookL m (refE d) with
 | none =>
   have ha : addC m d = putL m (refE d) d := by unfold addC; rw [hl]
   rw [ha]
   rw [hl] at hk
   rw [eiv_eq d] at hput ⊢
   refine PCB.of_va (T := tb0) eqs_ok tb_ok rfl mixed Try.func60 rfl rfl rfl (Nat.le_of_ble_eq_true rfl) rfl ?_; intro Γ C WK LP fin h0 hk0 hW hC hB hR hLP hfin
   have h03 : Γ.n0 = 3 := h0
   (try (conv => whnf)); (repeat ((first | refine qT ?_ | refine qF ?_ | refine qO ?_ | (with_reducible intro z hz); (first | (replace hz := hz (by omega); subst hz) | subst hz)); (try (conv => whnf))))
   refine LookK.mk eivZ false (by rw [hk]; rfl) (by rw [hk]; rfl) ?_
   (try (conv => whnf)); (repeat ((first | refine qT ?_ | refine qF ?_ | refine qO ?_ | (with_reducible intro z hz); (first | (replace hz := hz (by omega); subst hz) | subst hz)); (try (conv => whnf))))
   exact hfin _ ((WeakA.mapTo 2 ((mkL kv2 eiv (putL m (refE d) d))) rfl (by exact hput)).trans (qSL 3 rfl rfl))
 | some e =>
   have hCm := compareE_pc d e
   rw [hl] at hk
   by_cases hg : 0 < legE d e
   · have ha : addC m d = putL m (refE d) d := by unfold addC; rw [hl]; exact if_pos hg
     rw [ha]
     generalize legE d e = z at *
     rw [eiv_eq d, eiv_eq e] at hCm
     rw [eiv_eq d] at hput ⊢
     refine PCB.of_va (T := tb0) eqs_ok tb_ok rfl mixed Try.func60 rfl rfl rfl (Nat.le_of_ble_eq_true rfl) rfl ?_; intro Γ C WK LP fin h0 hk0 hW hC hB hR hLP hfin
     have h03 : Γ.n0 = 3 := h0
     (try (conv => whnf)); (repeat ((first | refine qT ?_ | refine qF ?_ | refine qO ?_ | (with_reducible intro z hz); (first | (replace hz := hz (by omega); subst hz) | subst hz)); (try (conv => whnf))))
     refine LookK.mk (eiv e) true (by rw [hk]; rfl) (by rw [hk]; rfl) ?_
     rw [eiv_eq e]
     (try (conv => whnf)); (repeat ((first | refine qT ?_ | refine qF ?_ | refine qO ?_ | (with_reducible intro z hz); (first | (replace hz := hz (by omega); subst hz) | subst hz) | (refine CallV.mk _ (hC _ _ _ (PCw.of hCm)) (fun js hjs => ?_); subst hjs)); (try (conv => whnf))))
     exact hfin _ ((WeakA.mapTo 2 ((mkL kv2 eiv (putL m (refE d) d))) rfl (by exact hput)).trans (qSL 3 rfl rfl))
   · have ha : addC m d = m := by unfold addC; rw [hl]; exact if_neg hg
     rw [ha]
     generalize legE d e = z at *
     rw [eiv_eq d, eiv_eq e] at hCm
     rw [eiv_eq d]
     refine PCB.of_va (T := tb0) eqs_ok tb_ok rfl mixed Try.func60 rfl rfl rfl (Nat.le_of_ble_eq_true rfl) rfl ?_; intro Γ C WK LP fin h0 hk0 hW hC hB hR hLP hfin
     have h03 : Γ.n0 = 3 := h0
     (try (conv => whnf)); (repeat ((first | refine qT ?_ | refine qF ?_ | refine qO ?_ | (with_reducible intro z hz); (first | (replace hz := hz (by omega); subst hz) | subst hz)); (try (conv => whnf))))
     refine LookK.mk (eiv e) true (by rw [hk]; rfl) (by rw [hk]; rfl) ?_
     rw [eiv_eq e]
     (try (conv => whnf)); (repeat ((first | refine qT ?_ | refine qF ?_ | refine qO ?_ | (with_reducible intro z hz); (first | (replace hz := hz (by omega); subst hz) | subst hz) | (refine CallV.mk _ (hC _ _ _ (PCw.of hCm)) (fun js hjs => ?_); subst hjs)); (try (conv => whnf))))
     exact hfin _ (qSL 3 rfl rfl)
end Go.Proofs.Ytglkpmhamekpmaa.Po
