/-
  Corpus: an act as corrected.
-/
import Derived.Test.YtglkpmhamekpmaaWCh
namespace Go.Proofs.Ytglkpmhamekpmaa.Po
open Go Go.Pv Go.RowKit
set_option linter.unusedSimpArgs false
open Lab Lcs Go.Proofs.Ytglkpmhamekpmaa Go.Proofs.Ytglkpmhamekpmaa.Pu
set_option maxRecDepth 10000
set_option maxHeartbeats 32000000
abbrev rgD (r : Rg) : List Blk := [.dead 1, .map (.int .i64) 1 (mkL kI IV.bool r.reps), .map kkC 1 (mkL kv2 eiv r.cors)]
abbrev rgDC (r : Rg) : List CBk := [.dead 1, .map (.int .i64) 1 (mkL kI IV.bool r.reps), .map kkC 1 (mkL kv2 eiv r.cors)]
abbrev rwI (g : Nat) (l : List It) : Blk := .row 42 25 g ((l.map itv).map .imm)
abbrev rwIC (g : Nat) (l : List It) : CBk := .row 42 25 g (l.map itv)
abbrev rgDI (r : Rg) (l : List It) : List Blk := [.dead 1, .map (.int .i64) 1 (mkL kI IV.bool r.reps), .map kkC 1 (mkL kv2 eiv r.cors), rwI 1 l]
abbrev rgDIC (r : Rg) (l : List It) : List CBk := [.dead 1, .map (.int .i64) 1 (mkL kI IV.bool r.reps), .map kkC 1 (mkL kv2 eiv r.cors), rwIC 1 l]
theorem corItemR_pcb (r : Rg) (a : Ac) (its : List It) (i : Nat) (x : It) (hx : its[i]? = some x) (hm : OkC' r.cors) :
   PCB Try.prog env0 52 [.agg [.row 0 1, .row 1 1, .row 2 1], .agg [.imm (.int .i64 a.num), .imm (.str a.title), .imm (.int .i64 a.day), .imm (.int .i64 a.sk), .imm (.int .i64 a.sd), .imm (.str a.se), .row 3 1], .imm (.int .i64 (i : Nat))] (rgDI r its) [.imm (itv (corF r.cors a.num i x))] (rgDI r its) := by
 have hk := look_cor r.cors a.num (i : Nat)
 have hA := isAm_pc x.kind
 have hlt := (List.getElem?_eq_some_iff.1 hx).1
 have hmi : (its.map itv).length = its.length := List.length_map _
 have hmi2 : ((its.map itv).map PV.imm).length = its.length := by simp
 have hrx : ((its.map itv).map PV.imm)[i]? = some (.imm (itv x)) := by simp [hx]
 cases hl : lookL r.cors (a.num, (i : Int)) with
 | none =>
   rw [hl] at hk
   have hc : corF r.cors a.num i x = x := by unfold corF; rw [hl]
   rw [hc]
   rw [itv_eq x] at hrx ⊢
   refine PCB.of_va (T := tbr0) eqs_ok tbr_ok rfl mixed Try.func52 rfl rfl rfl (Nat.le_of_ble_eq_true rfl) rfl ?_; intro Γ C WK LP fin h0 hk0 hW hC hB hR hLP hfin
   have h03 : Γ.n0 = 4 := h0
   (try (conv => whnf)); (repeat ((first | refine qT ?_ | refine qF ?_ | refine qO ?_ | (with_reducible intro z hz); (first | (replace hz := hz (by omega); subst hz) | subst hz)); (try (conv => whnf))))
   refine Pos.mk i rfl (by omega) ?_
   (try (conv => whnf)); (repeat ((first | refine qT ?_ | refine qF ?_ | refine qO ?_ | (with_reducible intro z hz); (first | (replace hz := hz (by omega); subst hz) | subst hz)); (try (conv => whnf))))
   refine At.mk _ hrx ?_
   (try (conv => whnf)); (repeat ((first | refine qT ?_ | refine qF ?_ | refine qO ?_ | (with_reducible intro z hz); (first | (replace hz := hz (by omega); subst hz) | subst hz)); (try (conv => whnf))))
   refine LookK.mk eivZ false (by rw [hk]; rfl) (by rw [hk]; rfl) ?_
   (try (conv => whnf)); (repeat ((first | refine qT ?_ | refine qF ?_ | refine qO ?_ | (with_reducible intro z hz); (first | (replace hz := hz (by omega); subst hz) | subst hz)); (try (conv => whnf))))
   exact hfin _ (qSL 4 rfl rfl)
 | some e =>
   rw [hl] at hk
   obtain ⟨y, q, hy⟩ := hm _ _ _ hl
   have hy1 : (e.it.bys.map itv).length = q.length + 1 := by rw [hy]; simp
   cases hb : chB x.kind with
   | true =>
     have hc : corF r.cors a.num i x = y := by unfold corF; rw [hl]; simp [hb, hy]
     rw [hc]
     rw [hb] at hA
     rw [itv_eq x] at hrx
     rw [itv_eq y]
     refine PCB.of_va (T := tbr0) eqs_ok tbr_ok rfl mixed Try.func52 rfl rfl rfl (Nat.le_of_ble_eq_true rfl) rfl ?_; intro Γ C WK LP fin h0 hk0 hW hC hB hR hLP hfin
     have h03 : Γ.n0 = 4 := h0
     (try (conv => whnf)); (repeat ((first | refine qT ?_ | refine qF ?_ | refine qO ?_ | (with_reducible intro z hz); (first | (replace hz := hz (by omega); subst hz) | subst hz)); (try (conv => whnf))))
     refine Pos.mk i rfl (by omega) ?_
     (try (conv => whnf)); (repeat ((first | refine qT ?_ | refine qF ?_ | refine qO ?_ | (with_reducible intro z hz); (first | (replace hz := hz (by omega); subst hz) | subst hz)); (try (conv => whnf))))
     refine At.mk _ hrx ?_
     (try (conv => whnf)); (repeat ((first | refine qT ?_ | refine qF ?_ | refine qO ?_ | (with_reducible intro z hz); (first | (replace hz := hz (by omega); subst hz) | subst hz)); (try (conv => whnf))))
     refine LookK.mk (eiv e) true (by rw [hk]; rfl) (by rw [hk]; rfl) ?_
     rw [eiv_eq e]
     (try (conv => whnf)); (repeat ((first | refine qT ?_ | refine qF ?_ | refine qO ?_ | (with_reducible intro z hz); (first | (replace hz := hz (by omega); subst hz) | subst hz) | (refine CallV.mk _ (hC _ _ _ (PCw.of hA)) (fun js hjs => ?_); subst hjs)); (try (conv => whnf))))
     refine Idx.mk 0 (itv y) _ rfl (by rw [hy]; rfl) (by rw [itv_eq y]) ?_
     (try (conv => whnf)); (repeat ((first | refine qT ?_ | refine qF ?_ | refine qO ?_ | (with_reducible intro z hz); (first | (replace hz := hz (by omega); subst hz) | subst hz)); (try (conv => whnf))))
     exact hfin _ (qSL 4 rfl rfl)
   | false =>
     have hc : corF r.cors a.num i x = x := by unfold corF; rw [hl]; simp [hb]
     rw [hc]
     rw [hb] at hA
     rw [itv_eq x] at hrx ⊢
     refine PCB.of_va (T := tbr0) eqs_ok tbr_ok rfl mixed Try.func52 rfl rfl rfl (Nat.le_of_ble_eq_true rfl) rfl ?_; intro Γ C WK LP fin h0 hk0 hW hC hB hR hLP hfin
     have h03 : Γ.n0 = 4 := h0
     (try (conv => whnf)); (repeat ((first | refine qT ?_ | refine qF ?_ | refine qO ?_ | (with_reducible intro z hz); (first | (replace hz := hz (by omega); subst hz) | subst hz)); (try (conv => whnf))))
     refine Pos.mk i rfl (by omega) ?_
     (try (conv => whnf)); (repeat ((first | refine qT ?_ | refine qF ?_ | refine qO ?_ | (with_reducible intro z hz); (first | (replace hz := hz (by omega); subst hz) | subst hz)); (try (conv => whnf))))
     refine At.mk _ hrx ?_
     (try (conv => whnf)); (repeat ((first | refine qT ?_ | refine qF ?_ | refine qO ?_ | (with_reducible intro z hz); (first | (replace hz := hz (by omega); subst hz) | subst hz)); (try (conv => whnf))))
     refine LookK.mk (eiv e) true (by rw [hk]; rfl) (by rw [hk]; rfl) ?_
     rw [eiv_eq e]
     (try (conv => whnf)); (repeat ((first | refine qT ?_ | refine qF ?_ | refine qO ?_ | (with_reducible intro z hz); (first | (replace hz := hz (by omega); subst hz) | subst hz) | (refine CallV.mk _ (hC _ _ _ (PCw.of hA)) (fun js hjs => ?_); subst hjs)); (try (conv => whnf))))
     exact hfin _ (qSL 4 rfl rfl)
def corI (m : CorM) (n : Int) : Nat → List It → List It
 | _, [] => []
 | i, x :: l => corF m n i x :: corI m n (i + 1) l
theorem corI_app (m : CorM) (n : Int) : ∀ (a b : List It) (i : Nat), corI m n i (a ++ b) = corI m n i a ++ corI m n (i + a.length) b
 | [], b, i => by simp [corI]
 | x :: a, b, i => by
   simp only [List.cons_append, corI, List.length_cons]
   rw [corI_app m n a b (i + 1), show i + 1 + a.length = i + (a.length + 1) by omega]
theorem corI_len (m : CorM) (n : Int) : ∀ (l : List It) (i : Nat), (corI m n i l).length = l.length
 | [], _ => rfl
 | x :: l, i => by simp [corI, corI_len m n l (i + 1)]
def corK (m : CorM) (n : Int) (l : List It) (k : Nat) : List It := corI m n 0 (l.take k) ++ l.drop k
theorem corK_len (m : CorM) (n : Int) (l : List It) (k : Nat) : (corK m n l k).length = l.length := by
 unfold corK
 rw [List.length_append, corI_len, List.length_take, List.length_drop]; omega
theorem corK_at {m : CorM} {n : Int} {l : List It} {k : Nat} {x : It} (hx : l[k]? = some x) : (corK m n l k)[k]? = some x := by
 have hk := (List.getElem?_eq_some_iff.1 hx).1
 have hl : (corI m n 0 (l.take k)).length = k := by rw [corI_len, List.length_take]; omega
 unfold corK
 rw [List.getElem?_append_right (by omega), hl, Nat.sub_self, List.getElem?_drop]
 exact hx
theorem corK_step {m : CorM} {n : Int} {l : List It} {k : Nat} {x : It} (hx : l[k]? = some x) : (corK m n l k).set k (corF m n k x) = corK m n l (k + 1) := by
 have hk := (List.getElem?_eq_some_iff.1 hx).1
 have hl : (corI m n 0 (l.take k)).length = k := by rw [corI_len, List.length_take]; omega
 have ht : (l.take k).length = k := by rw [List.length_take]; omega
 have hd : l.drop k = x :: l.drop (k + 1) := by rw [List.drop_eq_getElem_cons hk]; congr 1; exact (List.getElem?_eq_some_iff.1 hx).2
 unfold corK
 rw [List.set_append_right _ _ (by omega), hl, Nat.sub_self, hd, List.set_cons_zero, take_at hx, corI_app, ht, Nat.zero_add]
 simp [corI]
def corA (m : CorM) (a : Ac) : Ac := ⟨a.num, a.title, a.day, a.sk, a.sd, a.se, corI m a.num 0 a.items⟩
theorem corrected_pcb (r : Rg) (a : Ac) (hm : OkC' r.cors) (hs : a.items.length ≤ 1000000) :
   PCB Try.prog env0 28 [.agg [.row 0 1, .row 1 1, .row 2 1], .imm (acv a)] (rgD r) [.imm (acv (corA r.cors a))] (rgD r) := by
 have hI1 := cloneI_pcr (X := env0) (a.items.map itv) (by simp; omega)
 have hmi : (a.items.map itv).length = a.items.length := List.length_map _
 have hmi2 : ((a.items.map itv).map PV.imm).length = a.items.length := by simp
 unfold acv corA
 refine PCB.of_va (T := (tbrf fun r => match r with | 7 => [6] | _ => [])) eqs_ok tbr_ok rfl mixed Try.func28 rfl rfl rfl (Nat.le_of_ble_eq_true rfl) rfl ?_; intro Γ C WK LP fin h0 hk0 hW hC hB hR hLP hfin
 have h03 : Γ.n0 = 3 := h0
 (try (conv => whnf)); (repeat ((first | refine qT ?_ | refine qF ?_ | refine qO ?_ | (with_reducible intro z hz); (first | (replace hz := hz (by omega); subst hz) | subst hz)); (try (conv => whnf))))
 refine CallV.row _ _ _ (hR _ _ _ _ _ (PCRw.of (hI1))) (fun js hjs => ?_); subst hjs
 (try (conv => whnf)); (repeat ((first | refine qT ?_ | refine qF ?_ | refine qO ?_ | (with_reducible intro z hz); (first | (replace hz := hz (by omega); subst hz) | subst hz)); (try (conv => whnf))))
 refine hLP _ _ _ Nat (fun k => ⟨[(2, .ptr 3 1 0), (3, .ptr 4 1 0), (4, .ptr 5 1 0), (12, .imm (.int .i64 (a.items.length : Nat))), (13, .imm (.int .i64 (k : Nat)))], [.dead 1, .map (.int .i64) 1 (mkL kI IV.bool r.reps), .map kkC 1 (mkL kv2 eiv r.cors), .box 1 [.row 0 1, .row 1 1, .row 2 1], .box 1 [.imm (.int .i64 a.num), .imm (.str a.title), .imm (.int .i64 a.day), .imm (.int .i64 a.sk), .imm (.int .i64 a.sd), .imm (.str a.se), .row 6 1], .box 1 [.imm (.int .i64 0), .imm (.str ⟨#[]⟩), .imm (.int .i64 0), .imm (.int .i64 0), .imm (.int .i64 0), .imm (.str ⟨#[]⟩), .imm .nil], rwI 1 (corK r.cors a.num a.items k)]⟩) (fun k => k ≤ a.items.length) (fun k => a.items.length - k) 0 (Nat.zero_le _) ((qSL 7 rfl rfl (hE := by (repeat ((conv => whnf); first | exact trivial | refine And.intro (by first | exact WkOne.any | exact WkOne.eq (by with_reducible rfl) rfl | exact WkOne.eq (congrArg (fun z => PV.imm (IV.int IntKind.i64 z)) (by first | omega | (simp [hmi2]; done) | (simp [hmi2]; omega))) rfl | exact WkOne.eq (by first | (simp [hmi2]; done) | fail) rfl | exact WkOne.eq rfl rfl | exact WkOne.le rfl (ILe.nil _)) ?_))))) ?_
 intro k hk
 have hho := Nat.lt_or_ge k a.items.length
 cases hho with
 | inl hlt =>
   refine (?_ : ∀ Q : Exit → AS → Prop, vcS _ _ _ _ _ _ _ (loopQA _ _ _ _ _ _ Q)) _; intro Q
   obtain ⟨x, hx⟩ : ∃ x, a.items[k]? = some x := ⟨a.items[k], List.getElem?_eq_getElem hlt⟩
   have hat := corK_at (m := r.cors) (n := a.num) hx
   have hst := corK_step (m := r.cors) (n := a.num) hx
   have hkl := corK_len r.cors a.num a.items k
   generalize corK r.cors a.num a.items k = R at *
   have hCo := corItemR_pcb r a R k x hat hm
   have hrl : ((R.map itv).map PV.imm).length = R.length := by simp
   have hrx : ((R.map itv).map PV.imm)[k]? = some (.imm (itv x)) := by simp [hat]
   generalize corF r.cors a.num k x = y at *
   rw [itv_eq x] at hrx
   rw [itv_eq y] at hCo
   (try (conv => whnf)); (repeat ((first | refine qT ?_ | refine qF ?_ | refine qO ?_ | (with_reducible intro z hz); (first | (replace hz := hz (by omega); subst hz) | subst hz)); (try (conv => whnf))))
   refine Imms.mk (R.map itv) rfl ?_
   refine CallB.mk ([.imm (itv y)]) (rgDIC r R) (hB _ _ _ _ _ (by rw [itv_eq y]; exact hCo)) ?_
   rw [itv_eq y]
   (try (conv => whnf)); (repeat ((first | refine qT ?_ | refine qF ?_ | refine qO ?_ | (with_reducible intro z hz); (first | (replace hz := hz (by omega); subst hz) | subst hz)); (try (conv => whnf))))
   refine Pos.mk k rfl (by omega) ?_
   (try (conv => whnf)); (repeat ((first | refine qT ?_ | refine qF ?_ | refine qO ?_ | (with_reducible intro z hz); (first | (replace hz := hz (by omega); subst hz) | subst hz)); (try (conv => whnf))))
   refine At.mk _ hrx ?_
   (try (conv => whnf)); (repeat ((first | refine qT ?_ | refine qF ?_ | refine qO ?_ | (with_reducible intro z hz); (first | (replace hz := hz (by omega); subst hz) | subst hz)); (try (conv => whnf))))
   exact ⟨k + 1, by omega, by dsimp only; omega, ((WeakA.row 6 ((((corK r.cors a.num a.items (k + 1)).map itv).map .imm)) rfl (by rw [← hst]; simp [List.map_set, itv_eq y]; rfl)).trans (qSL 7 rfl rfl))⟩
 | inr hge =>
   obtain rfl : k = a.items.length := by omega
   rw [show corK r.cors a.num a.items a.items.length = corI r.cors a.num 0 a.items by unfold corK; rw [List.take_length, List.drop_length, List.append_nil]]
   (try (conv => whnf)); (repeat ((first | refine qT ?_ | refine qF ?_ | refine qO ?_ | (with_reducible intro z hz); (first | (replace hz := hz (by omega); subst hz) | subst hz)); (try (conv => whnf))))
   refine Imms.mk ((corI r.cors a.num 0 a.items).map itv) rfl ?_
   (try (conv => whnf)); (repeat ((first | refine qT ?_ | refine qF ?_ | refine qO ?_ | (with_reducible intro z hz); (first | (replace hz := hz (by omega); subst hz) | subst hz)); (try (conv => whnf))))
   exact hfin _ (qSL 3 rfl rfl)
end Go.Proofs.Ytglkpmhamekpmaa.Po
