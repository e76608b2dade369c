/-
  Corpus: acts, gazettes and enacted items as plain values; the enacted items of an act.
-/
import Derived.Test.YtglkpmhamekpmaaWCb
namespace Go.Proofs.Ytglkpmhamekpmaa.Po
open Go Go.Pv Go.RowKit
set_option linter.unusedSimpArgs false
open Lab Lcs Go.Proofs.Ytglkpmhamekpmaa Go.Proofs.Ytglkpmhamekpmaa.Pu
set_option maxRecDepth 10000
set_option maxHeartbeats 32000000
structure Ac where
 num : Int
 title : Str
 day : Int
 sk : Int
 sd : Int
 se : Str
 items : List It
def acv (a : Ac) : IV := .agg [.int .i64 a.num, .str a.title, .int .i64 a.day, .int .i64 a.sk, .int .i64 a.sd, .str a.se, .sl 25 (a.items.map itv)]
structure Ei where
 act : Int
 item : Int
 day : Int
 it : It
def eiv (e : Ei) : IV := .agg [.int .i64 e.act, .int .i64 e.item, .int .i64 e.day, .int .i64 e.it.kind, .sl 2 (e.it.p.map spv), .sl 2 (e.it.q.map spv), .int .i64 e.it.z, .int .i64 e.it.nth, .int .i64 e.it.unit.id.x, .int .i64 e.it.unit.id.y, .int .i64 e.it.unit.id.z, .int .i64 e.it.unit.kind, .str e.it.unit.label, .sl 4 (e.it.unit.head.map wdv), .sl 4 (e.it.unit.words.map wdv), .sl 8 (e.it.unit.kids.map uv), .sl 1 (e.it.old.map IV.str), .sl 1 (e.it.new.map IV.str), .str e.it.lb, .str e.it.fr, .int .i64 e.it.sk, .int .i64 e.it.sd, .str e.it.se, .int .i64 e.it.a, .int .i64 e.it.i, .int .i64 e.it.d, .str e.it.ev, .sl 25 (e.it.bys.map itv)]
def eisL (n d : Int) : Nat → List It → List Ei
 | _, [] => []
 | i, x :: r => ⟨n, (i : Nat), d, x⟩ :: eisL n d (i + 1) r
theorem eisL_app (n d : Int) : ∀ (a b : List It) (i : Nat), eisL n d i (a ++ b) = eisL n d i a ++ eisL n d (i + a.length) b
 | [], b, i => by simp [eisL]
 | x :: a, b, i => by
   simp only [List.cons_append, eisL, List.length_cons]
   rw [eisL_app n d a b (i + 1), show i + 1 + a.length = i + (a.length + 1) by omega]
theorem eisL_take {n d : Int} {l : List It} {k : Nat} {x : It} (hx : l[k]? = some x) : eisL n d 0 (l.take (k + 1)) = eisL n d 0 (l.take k) ++ [⟨n, (k : Nat), d, x⟩] := by
 have hk : (l.take k).length = k := by
   have := (List.getElem?_eq_some_iff.1 hx).1
   rw [List.length_take]; omega
 rw [take_at hx, eisL_app, hk, Nat.zero_add]
 rfl
theorem eisL_len (n d : Int) : ∀ (l : List It) (i : Nat), (eisL n d i l).length = l.length
 | [], _ => rfl
 | x :: l, i => by simp [eisL, eisL_len n d l (i + 1)]
def eiA (a : Ac) : List Ei := eisL a.num a.day 0 a.items
theorem items_pc (a : Ac) (hl : a.items.length ≤ 1000000) (hc : ∀ x ∈ a.items, CpI x) : PC Try.prog env0 27 [acv a] [.sl 28 ((eiA a).map eiv)] := by
 have hml : (a.items.map itv).length = a.items.length := List.length_map _
 unfold acv eiA
 refine PC.of_va (T := tb0) eqs_ok tb_ok rfl mixed Try.func27 rfl rfl (Nat.le_of_ble_eq_true rfl) ?_; intro Γ C WK LP fin h0 hW hC hB hR hLP hfin
 (try (conv => whnf)); (repeat ((first | refine qT ?_ | refine qF ?_ | refine qO ?_ | (with_reducible intro z hz); (first | (replace hz := hz (by omega); subst hz) | subst hz)); (try (conv => whnf))))
 refine hLP _ _ _ Nat (fun k => ⟨[(1, .ptr 0 1 0), (3, .row 1 1), (7, .imm (.sl 25 (a.items.map itv))), (8, .imm (.int .i64 (a.items.length : Nat))), (9, .imm (.int .i64 (k : Nat)))], [.box 1 [.imm (.int .i64 a.num), .imm (.str a.title), .imm (.int .i64 a.day), .imm (.int .i64 a.sk), .imm (.int .i64 a.sd), .imm (.str a.se), .imm (.sl 25 (a.items.map itv))], .row 44 28 1 (((eisL a.num a.day 0 (a.items.take k)).map eiv).map .imm)]⟩) (fun k => k ≤ a.items.length) (fun k => a.items.length - k) 0 (Nat.zero_le _) ((WeakA.nilSlot 3 44 28 (Nat.le_of_ble_eq_true rfl) rfl).trans ((WeakA.row 1 (((eisL a.num a.day 0 (a.items.take 0)).map eiv).map .imm) rfl (by simp [eisL])).trans (qSL 2 rfl rfl (hE := by (repeat ((conv => whnf); first | exact trivial | refine And.intro (by first | exact WkOne.any | exact WkOne.eq (by with_reducible rfl) rfl | exact WkOne.eq (congrArg (fun z => PV.imm (IV.int IntKind.i64 z)) (by first | omega | (simp [hml]; done) | (simp [hml]; omega))) rfl | exact WkOne.eq (by first | (simp [hml]; done) | fail) rfl | exact WkOne.eq rfl rfl | exact WkOne.le rfl (ILe.nil _)) ?_)))))) ?_
 intro k hk
 have hho := Nat.lt_or_ge k a.items.length
 cases hho with
 | inl hlt =>
   obtain ⟨x, hx⟩ : ∃ x, a.items[k]? = some x := ⟨a.items[k], List.getElem?_eq_getElem hlt⟩
   have hC2 := copyItem_pc x (hc x (List.mem_of_getElem? hx))
   have hst := eisL_take (n := a.num) (d := a.day) hx
   have hrl : (((eisL a.num a.day 0 (a.items.take k)).map eiv).map PV.imm).length ≤ k := by
     rw [List.length_map, List.length_map, eisL_len, List.length_take]; omega
   rw [itv_eq x] at hC2
   generalize eisL a.num a.day 0 (a.items.take k) = R at *
   (try (conv => whnf)); (repeat ((first | refine qT ?_ | refine qF ?_ | refine qO ?_ | (with_reducible intro z hz); (first | (replace hz := hz (by omega); subst hz) | subst hz)); (try (conv => whnf))))
   refine Idx.mk k (itv x) _ rfl (by simp [hx]) (by rw [itv_eq x]) ?_
   (try (conv => whnf)); (repeat ((first | refine qT ?_ | refine qF ?_ | refine qO ?_ | (with_reducible intro z hz); (first | (replace hz := hz (by omega); subst hz) | subst hz) | (refine CallV.mk _ (hC _ _ _ (PCw.of hC2)) (fun js hjs => ?_); subst hjs)); (try (conv => whnf))))
   refine Owe.mk (by first | (show _ + 1 ≤ most; unfold most; omega) | (refine Or.inl ?_; show _ + 1 ≤ most; unfold most; omega)) ?_
   (try (conv => whnf)); (repeat ((first | refine qT ?_ | refine qF ?_ | refine qO ?_ | (with_reducible intro z hz); (first | (replace hz := hz (by omega); subst hz) | subst hz)); (try (conv => whnf))))
   refine ⟨k + 1, by omega, by dsimp only; omega, ?_⟩
   dsimp only []
   rw [hst]
   exact ((WeakA.row 1 (((R ++ [(⟨a.num, (k : Nat), a.day, x⟩ : Ei)]).map eiv).map .imm) rfl (by simp [eiv]))).trans ((WeakA.renew 1 1 rfl (by first | omega | (intro _; rw [hk0 _ _ rfl]; exact Nat.le_of_ble_eq_true rfl)) (by repeat (first | exact trivial | refine And.intro (rgL_imms _ _ _ _) ?_ | refine And.intro rfl ?_))).trans (qSL 2 rfl rfl))
 | inr hge =>
   obtain rfl : k = a.items.length := by omega
   rw [List.take_length]
   (try (conv => whnf)); (repeat ((first | refine qT ?_ | refine qF ?_ | refine qO ?_ | (with_reducible intro z hz); (first | (replace hz := hz (by omega); subst hz) | subst hz)); (try (conv => whnf))))
   refine Imms.mk ((eisL a.num a.day 0 a.items).map eiv) rfl ?_
   exact hfin _ (ILes.refl _)
end Go.Proofs.Ytglkpmhamekpmaa.Po
