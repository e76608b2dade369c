/-
  Corpus: items and acts as corrected. Corpus: an act as corrected. Corpus: legal order of enacted items as an order; sorted lists of them (of no program but for the names). Corpus: what holds of every register (of no program but for the names).
-/
import Derived.Test.YtglkpmhamekpmaaGreatGa
import Derived.Test.YtglkpmhamekpmaaGreatSov
namespace Go.Proofs.YtglkpmhamekpmaaGreat.Po
open Go Go.Pv Go.RowKit
set_option linter.unusedSimpArgs false
open Lab Lcs Go.Proofs.YtglkpmhamekpmaaGreat Go.Proofs.YtglkpmhamekpmaaGreat.Pu
set_option maxRecDepth 10000
set_option maxHeartbeats 32000000
def corF (m : CorM) (n i : Int) (x : It) : It := match lookL m (n, i) with
 | some e => if chB x.kind = true then e.it.bys.headD x else x
 | none => x
def OkC' (m : CorM) : Prop := ∀ n i e, lookL m (n, i) = some e → ∃ y r, e.it.bys = y :: r
theorem corItem_pcb (r : Rg) (a : Ac) (i : Nat) (x : It) (hx : a.items[i]? = some x) (hm : OkC' r.cors) (_ : a.items.length ≤ 1000000) :
   PCB Tryz.prog env0 106 [.agg [.row 0 1, .row 1 1, .row 2 1], .imm (acv a), .imm (.int .i64 (i : Nat))] (rgB r) [.imm (itv (corF r.cors a.num i x))] (rgB r) := by
 have hk := look_cor r.cors a.num (i : Nat)
 have hA := isAm_pc x.kind
 have hlt := (List.getElem?_eq_some_iff.1 hx).1
 have hmi : (a.items.map itv).length = a.items.length := List.length_map _
 unfold acv
 cases hl : lookL r.cors (a.num, (i : Int)) with
 | none =>
   rw [hl] at hk
   have hc : corF r.cors a.num i x = x := by unfold corF; rw [hl]
   rw [hc]
   rw [itv_eq x]
   refine PCB.of_va (T := tbr0) eqs_ok tbr_ok rfl mixed Tryz.func106 rfl rfl rfl (Nat.le_of_ble_eq_true rfl) rfl ?_; intro Γ C WK LP fin h0 hk0 hW hC hB hR hLP hfin
   have h03 : Γ.n0 = 3 := h0
   (try (conv => whnf)); (repeat ((first | refine qT ?_ | refine qF ?_ | refine qO ?_ | (with_reducible intro z hz); (first | (replace hz := hz (by omega); subst hz) | subst hz)); (try (conv => whnf))))
   refine Idx.mk i (itv x) _ rfl (by simp [hx]) (by rw [itv_eq x]) ?_
   (try (conv => whnf)); (repeat ((first | refine qT ?_ | refine qF ?_ | refine qO ?_ | (with_reducible intro z hz); (first | (replace hz := hz (by omega); subst hz) | subst hz)); (try (conv => whnf))))
   refine LookK.mk eivZ false (by rw [hk]; rfl) (by rw [hk]; rfl) ?_
   (try (conv => whnf)); (repeat ((first | refine qT ?_ | refine qF ?_ | refine qO ?_ | (with_reducible intro z hz); (first | (replace hz := hz (by omega); subst hz) | subst hz)); (try (conv => whnf))))
   exact hfin _ (qSL 3 rfl rfl)
 | some e =>
   rw [hl] at hk
   obtain ⟨y, q, hy⟩ := hm _ _ _ hl
   have hy1 : (e.it.bys.map itv).length = q.length + 1 := by rw [hy]; simp
   cases hb : chB x.kind with
   | true =>
     have hc : corF r.cors a.num i x = y := by unfold corF; rw [hl]; simp [hb, hy]
     rw [hc]
     rw [hb] at hA
     rw [itv_eq y]
     refine PCB.of_va (T := tbr0) eqs_ok tbr_ok rfl mixed Tryz.func106 rfl rfl rfl (Nat.le_of_ble_eq_true rfl) rfl ?_; intro Γ C WK LP fin h0 hk0 hW hC hB hR hLP hfin
     have h03 : Γ.n0 = 3 := h0
     (try (conv => whnf)); (repeat ((first | refine qT ?_ | refine qF ?_ | refine qO ?_ | (with_reducible intro z hz); (first | (replace hz := hz (by omega); subst hz) | subst hz)); (try (conv => whnf))))
     refine Idx.mk i (itv x) _ rfl (by simp [hx]) (by rw [itv_eq x]) ?_
     (try (conv => whnf)); (repeat ((first | refine qT ?_ | refine qF ?_ | refine qO ?_ | (with_reducible intro z hz); (first | (replace hz := hz (by omega); subst hz) | subst hz)); (try (conv => whnf))))
     refine LookK.mk (eiv e) true (by rw [hk]; rfl) (by rw [hk]; rfl) ?_
     rw [eiv_eq e]
     (try (conv => whnf)); (repeat ((first | refine qT ?_ | refine qF ?_ | refine qO ?_ | (with_reducible intro z hz); (first | (replace hz := hz (by omega); subst hz) | subst hz) | (refine CallV.mk _ (hC _ _ _ (PCw.of hA)) (fun js hjs => ?_); subst hjs)); (try (conv => whnf))))
     refine Idx.mk 0 (itv y) _ rfl (by rw [hy]; rfl) (by rw [itv_eq y]) ?_
     (try (conv => whnf)); (repeat ((first | refine qT ?_ | refine qF ?_ | refine qO ?_ | (with_reducible intro z hz); (first | (replace hz := hz (by omega); subst hz) | subst hz)); (try (conv => whnf))))
     exact hfin _ (qSL 3 rfl rfl)
   | false =>
     have hc : corF r.cors a.num i x = x := by unfold corF; rw [hl]; simp [hb]
     rw [hc]
     rw [hb] at hA
     rw [itv_eq x]
     refine PCB.of_va (T := tbr0) eqs_ok tbr_ok rfl mixed Tryz.func106 rfl rfl rfl (Nat.le_of_ble_eq_true rfl) rfl ?_; intro Γ C WK LP fin h0 hk0 hW hC hB hR hLP hfin
     have h03 : Γ.n0 = 3 := h0
     (try (conv => whnf)); (repeat ((first | refine qT ?_ | refine qF ?_ | refine qO ?_ | (with_reducible intro z hz); (first | (replace hz := hz (by omega); subst hz) | subst hz)); (try (conv => whnf))))
     refine Idx.mk i (itv x) _ rfl (by simp [hx]) (by rw [itv_eq x]) ?_
     (try (conv => whnf)); (repeat ((first | refine qT ?_ | refine qF ?_ | refine qO ?_ | (with_reducible intro z hz); (first | (replace hz := hz (by omega); subst hz) | subst hz)); (try (conv => whnf))))
     refine LookK.mk (eiv e) true (by rw [hk]; rfl) (by rw [hk]; rfl) ?_
     rw [eiv_eq e]
     (try (conv => whnf)); (repeat ((first | refine qT ?_ | refine qF ?_ | refine qO ?_ | (with_reducible intro z hz); (first | (replace hz := hz (by omega); subst hz) | subst hz) | (refine CallV.mk _ (hC _ _ _ (PCw.of hA)) (fun js hjs => ?_); subst hjs)); (try (conv => whnf))))
     exact hfin _ (qSL 3 rfl rfl)
end Go.Proofs.YtglkpmhamekpmaaGreat.Po
namespace Go.Proofs.YtglkpmhamekpmaaGreat.Po
open Go Go.Pv Go.RowKit
set_option linter.unusedSimpArgs false
open Lab Lcs Go.Proofs.YtglkpmhamekpmaaGreat Go.Proofs.YtglkpmhamekpmaaGreat.Pu
set_option maxRecDepth 10000
set_option maxHeartbeats 32000000
abbrev rgD (r : Rg) : List Blk := [.dead 1, .map (.int .i64) 1 (mkL kI IV.bool r.reps), .map kkC 1 (mkL kv2 eiv r.cors)]
abbrev rgDC (r : Rg) : List CBk := [.dead 1, .map (.int .i64) 1 (mkL kI IV.bool r.reps), .map kkC 1 (mkL kv2 eiv r.cors)]
abbrev rwI (g : Nat) (l : List It) : Blk := .row 43 25 g ((l.map itv).map .imm)
abbrev rwIC (g : Nat) (l : List It) : CBk := .row 43 25 g (l.map itv)
abbrev rgDI (r : Rg) (l : List It) : List Blk := [.dead 1, .map (.int .i64) 1 (mkL kI IV.bool r.reps), .map kkC 1 (mkL kv2 eiv r.cors), rwI 1 l]
abbrev rgDIC (r : Rg) (l : List It) : List CBk := [.dead 1, .map (.int .i64) 1 (mkL kI IV.bool r.reps), .map kkC 1 (mkL kv2 eiv r.cors), rwIC 1 l]
theorem corItemR_pcb (r : Rg) (a : Ac) (its : List It) (i : Nat) (x : It) (hx : its[i]? = some x) (hm : OkC' r.cors) :
   PCB Tryz.prog env0 106 [.agg [.row 0 1, .row 1 1, .row 2 1], .agg [.imm (.int .i64 a.num), .imm (.str a.title), .imm (.int .i64 a.day), .imm (.int .i64 a.sk), .imm (.int .i64 a.sd), .imm (.str a.se), .row 3 1], .imm (.int .i64 (i : Nat))] (rgDI r its) [.imm (itv (corF r.cors a.num i x))] (rgDI r its) := by
 have hk := look_cor r.cors a.num (i : Nat)
 have hA := isAm_pc x.kind
 have hlt := (List.getElem?_eq_some_iff.1 hx).1
 have hmi : (its.map itv).length = its.length := List.length_map _
 have hmi2 : ((its.map itv).map PV.imm).length = its.length := by simp
 have hrx : ((its.map itv).map PV.imm)[i]? = some (.imm (itv x)) := by simp [hx]
 cases hl : lookL r.cors (a.num, (i : Int)) with
 | none =>
   rw [hl] at hk
   have hc : corF r.cors a.num i x = x := by unfold corF; rw [hl]
   rw [hc]
   rw [itv_eq x] at hrx ⊢
   refine PCB.of_va (T := tbr0) eqs_ok tbr_ok rfl mixed Tryz.func106 rfl rfl rfl (Nat.le_of_ble_eq_true rfl) rfl ?_; intro Γ C WK LP fin h0 hk0 hW hC hB hR hLP hfin
   have h03 : Γ.n0 = 4 := h0
   (try (conv => whnf)); (repeat ((first | refine qT ?_ | refine qF ?_ | refine qO ?_ | (with_reducible intro z hz); (first | (replace hz := hz (by omega); subst hz) | subst hz)); (try (conv => whnf))))
   refine Pos.mk i rfl (by omega) ?_
   (try (conv => whnf)); (repeat ((first | refine qT ?_ | refine qF ?_ | refine qO ?_ | (with_reducible intro z hz); (first | (replace hz := hz (by omega); subst hz) | subst hz)); (try (conv => whnf))))
   refine At.mk _ hrx ?_
   (try (conv => whnf)); (repeat ((first | refine qT ?_ | refine qF ?_ | refine qO ?_ | (with_reducible intro z hz); (first | (replace hz := hz (by omega); subst hz) | subst hz)); (try (conv => whnf))))
   refine LookK.mk eivZ false (by rw [hk]; rfl) (by rw [hk]; rfl) ?_
   (try (conv => whnf)); (repeat ((first | refine qT ?_ | refine qF ?_ | refine qO ?_ | (with_reducible intro z hz); (first | (replace hz := hz (by omega); subst hz) | subst hz)); (try (conv => whnf))))
   exact hfin _ (qSL 4 rfl rfl)
 | some e =>
   rw [hl] at hk
   obtain ⟨y, q, hy⟩ := hm _ _ _ hl
   have hy1 : (e.it.bys.map itv).length = q.length + 1 := by rw [hy]; simp
   cases hb : chB x.kind with
   | true =>
     have hc : corF r.cors a.num i x = y := by unfold corF; rw [hl]; simp [hb, hy]
     rw [hc]
     rw [hb] at hA
     rw [itv_eq x] at hrx
     rw [itv_eq y]
     refine PCB.of_va (T := tbr0) eqs_ok tbr_ok rfl mixed Tryz.func106 rfl rfl rfl (Nat.le_of_ble_eq_true rfl) rfl ?_; intro Γ C WK LP fin h0 hk0 hW hC hB hR hLP hfin
     have h03 : Γ.n0 = 4 := h0
     (try (conv => whnf)); (repeat ((first | refine qT ?_ | refine qF ?_ | refine qO ?_ | (with_reducible intro z hz); (first | (replace hz := hz (by omega); subst hz) | subst hz)); (try (conv => whnf))))
     refine Pos.mk i rfl (by omega) ?_
     (try (conv => whnf)); (repeat ((first | refine qT ?_ | refine qF ?_ | refine qO ?_ | (with_reducible intro z hz); (first | (replace hz := hz (by omega); subst hz) | subst hz)); (try (conv => whnf))))
     refine At.mk _ hrx ?_
     (try (conv => whnf)); (repeat ((first | refine qT ?_ | refine qF ?_ | refine qO ?_ | (with_reducible intro z hz); (first | (replace hz := hz (by omega); subst hz) | subst hz)); (try (conv => whnf))))
     refine LookK.mk (eiv e) true (by rw [hk]; rfl) (by rw [hk]; rfl) ?_
     rw [eiv_eq e]
     (try (conv => whnf)); (repeat ((first | refine qT ?_ | refine qF ?_ | refine qO ?_ | (with_reducible intro z hz); (first | (replace hz := hz (by omega); subst hz) | subst hz) | (refine CallV.mk _ (hC _ _ _ (PCw.of hA)) (fun js hjs => ?_); subst hjs)); (try (conv => whnf))))
     refine Idx.mk 0 (itv y) _ rfl (by rw [hy]; rfl) (by rw [itv_eq y]) ?_
     (try (conv => whnf)); (repeat ((first | refine qT ?_ | refine qF ?_ | refine qO ?_ | (with_reducible intro z hz); (first | (replace hz := hz (by omega); subst hz) | subst hz)); (try (conv => whnf))))
     exact hfin _ (qSL 4 rfl rfl)
   | false =>
     have hc : corF r.cors a.num i x = x := by unfold corF; rw [hl]; simp [hb]
     rw [hc]
     rw [hb] at hA
     rw [itv_eq x] at hrx ⊢
     refine PCB.of_va (T := tbr0) eqs_ok tbr_ok rfl mixed Tryz.func106 rfl rfl rfl (Nat.le_of_ble_eq_true rfl) rfl ?_; intro Γ C WK LP fin h0 hk0 hW hC hB hR hLP hfin
     have h03 : Γ.n0 = 4 := h0
     (try (conv => whnf)); (repeat ((first | refine qT ?_ | refine qF ?_ | refine qO ?_ | (with_reducible intro z hz); (first | (replace hz := hz (by omega); subst hz) | subst hz)); (try (conv => whnf))))
     refine Pos.mk i rfl (by omega) ?_
     (try (conv => whnf)); (repeat ((first | refine qT ?_ | refine qF ?_ | refine qO ?_ | (with_reducible intro z hz); (first | (replace hz := hz (by omega); subst hz) | subst hz)); (try (conv => whnf))))
     refine At.mk _ hrx ?_
     (try (conv => whnf)); (repeat ((first | refine qT ?_ | refine qF ?_ | refine qO ?_ | (with_reducible intro z hz); (first | (replace hz := hz (by omega); subst hz) | subst hz)); (try (conv => whnf))))
     refine LookK.mk (eiv e) true (by rw [hk]; rfl) (by rw [hk]; rfl) ?_
     rw [eiv_eq e]
     (try (conv => whnf)); (repeat ((first | refine qT ?_ | refine qF ?_ | refine qO ?_ | (with_reducible intro z hz); (first | (replace hz := hz (by omega); subst hz) | subst hz) | (refine CallV.mk _ (hC _ _ _ (PCw.of hA)) (fun js hjs => ?_); subst hjs)); (try (conv => whnf))))
     exact hfin _ (qSL 4 rfl rfl)
def corI (m : CorM) (n : Int) : Nat → List It → List It
 | _, [] => []
 | i, x :: l => corF m n i x :: corI m n (i + 1) l
theorem corI_app (m : CorM) (n : Int) : ∀ (a b : List It) (i : Nat), corI m n i (a ++ b) = corI m n i a ++ corI m n (i + a.length) b
 | [], b, i => by simp [corI]
 | x :: a, b, i => by
   simp only [List.cons_append, corI, List.length_cons]
   rw [corI_app m n a b (i + 1), show i + 1 + a.length = i + (a.length + 1) by omega]
theorem corI_len (m : CorM) (n : Int) : ∀ (l : List It) (i : Nat), (corI m n i l).length = l.length
 | [], _ => rfl
 | x :: l, i => by simp [corI, corI_len m n l (i + 1)]
def corK (m : CorM) (n : Int) (l : List It) (k : Nat) : List It := corI m n 0 (l.take k) ++ l.drop k
theorem corK_len (m : CorM) (n : Int) (l : List It) (k : Nat) : (corK m n l k).length = l.length := by
 unfold corK
 rw [List.length_append, corI_len, List.length_take, List.length_drop]; omega
theorem corK_at {m : CorM} {n : Int} {l : List It} {k : Nat} {x : It} (hx : l[k]? = some x) : (corK m n l k)[k]? = some x := by
 have hk := (List.getElem?_eq_some_iff.1 hx).1
 have hl : (corI m n 0 (l.take k)).length = k := by rw [corI_len, List.length_take]; omega
 unfold corK
 rw [List.getElem?_append_right (by omega), hl, Nat.sub_self, List.getElem?_drop]
 exact hx
theorem corK_step {m : CorM} {n : Int} {l : List It} {k : Nat} {x : It} (hx : l[k]? = some x) : (corK m n l k).set k (corF m n k x) = corK m n l (k + 1) := by
 have hk := (List.getElem?_eq_some_iff.1 hx).1
 have hl : (corI m n 0 (l.take k)).length = k := by rw [corI_len, List.length_take]; omega
 have ht : (l.take k).length = k := by rw [List.length_take]; omega
 have hd : l.drop k = x :: l.drop (k + 1) := by rw [List.drop_eq_getElem_cons hk]; congr 1; exact (List.getElem?_eq_some_iff.1 hx).2
 unfold corK
 rw [List.set_append_right _ _ (by omega), hl, Nat.sub_self, hd, List.set_cons_zero, take_at hx, corI_app, ht, Nat.zero_add]
 simp [corI]
def corA (m : CorM) (a : Ac) : Ac := ⟨a.num, a.title, a.day, a.sk, a.sd, a.se, corI m a.num 0 a.items⟩
theorem corrected_pcb (r : Rg) (a : Ac) (hm : OkC' r.cors) (hs : a.items.length ≤ 1000000) :
   PCB Tryz.prog env0 75 [.agg [.row 0 1, .row 1 1, .row 2 1], .imm (acv a)] (rgD r) [.imm (acv (corA r.cors a))] (rgD r) := by
 have hI1 := cloneI_pcr (X := env0) (a.items.map itv) (by simp; omega)
 have hmi : (a.items.map itv).length = a.items.length := List.length_map _
 have hmi2 : ((a.items.map itv).map PV.imm).length = a.items.length := by simp
 unfold acv corA
 refine PCB.of_va (T := (tbrf fun r => match r with | 7 => [6] | _ => [])) eqs_ok tbr_ok rfl mixed Tryz.func75 rfl rfl rfl (Nat.le_of_ble_eq_true rfl) rfl ?_; intro Γ C WK LP fin h0 hk0 hW hC hB hR hLP hfin
 have h03 : Γ.n0 = 3 := h0
 (try (conv => whnf)); (repeat ((first | refine qT ?_ | refine qF ?_ | refine qO ?_ | (with_reducible intro z hz); (first | (replace hz := hz (by omega); subst hz) | subst hz)); (try (conv => whnf))))
 refine CallV.row _ _ _ (hR _ _ _ _ _ (PCRw.of (hI1))) (fun js hjs => ?_); subst hjs
 (try (conv => whnf)); (repeat ((first | refine qT ?_ | refine qF ?_ | refine qO ?_ | (with_reducible intro z hz); (first | (replace hz := hz (by omega); subst hz) | subst hz)); (try (conv => whnf))))
 refine hLP _ _ _ Nat (fun k => ⟨[(2, .ptr 3 1 0), (3, .ptr 4 1 0), (4, .ptr 5 1 0), (12, .imm (.int .i64 (a.items.length : Nat))), (13, .imm (.int .i64 (k : Nat)))], [.dead 1, .map (.int .i64) 1 (mkL kI IV.bool r.reps), .map kkC 1 (mkL kv2 eiv r.cors), .box 1 [.row 0 1, .row 1 1, .row 2 1], .box 1 [.imm (.int .i64 a.num), .imm (.str a.title), .imm (.int .i64 a.day), .imm (.int .i64 a.sk), .imm (.int .i64 a.sd), .imm (.str a.se), .row 6 1], .box 1 [.imm (.int .i64 0), .imm (.str ⟨#[]⟩), .imm (.int .i64 0), .imm (.int .i64 0), .imm (.int .i64 0), .imm (.str ⟨#[]⟩), .imm .nil], rwI 1 (corK r.cors a.num a.items k)]⟩) (fun k => k ≤ a.items.length) (fun k => a.items.length - k) 0 (Nat.zero_le _) ((qSL 7 rfl rfl (hE := by (repeat ((conv => whnf); first | exact trivial | refine And.intro (by first | exact WkOne.any | exact WkOne.eq (by with_reducible rfl) rfl | exact WkOne.eq (congrArg (fun z => PV.imm (IV.int IntKind.i64 z)) (by first | omega | (simp [hmi2]; done) | (simp [hmi2]; omega))) rfl | exact WkOne.eq (by first | (simp [hmi2]; done) | fail) rfl | exact WkOne.eq rfl rfl | exact WkOne.le rfl (ILe.nil _)) ?_))))) ?_
 intro k hk
 have hho := Nat.lt_or_ge k a.items.length
 cases hho with
 | inl hlt =>
   refine (?_ : ∀ Q : Exit → AS → Prop, vcS _ _ _ _ _ _ _ (loopQA _ _ _ _ _ _ Q)) _; intro Q
   obtain ⟨x, hx⟩ : ∃ x, a.items[k]? = some x := ⟨a.items[k], List.getElem?_eq_getElem hlt⟩
   have hat := corK_at (m := r.cors) (n := a.num) hx
   have hst := corK_step (m := r.cors) (n := a.num) hx
   have hkl := corK_len r.cors a.num a.items k
   generalize corK r.cors a.num a.items k = R at *
   have hCo := corItemR_pcb r a R k x hat hm
   have hrl : ((R.map itv).map PV.imm).length = R.length := by simp
   have hrx : ((R.map itv).map PV.imm)[k]? = some (.imm (itv x)) := by simp [hat]
   generalize corF r.cors a.num k x = y at *
   rw [itv_eq x] at hrx
   rw [itv_eq y] at hCo
   (try (conv => whnf)); (repeat ((first | refine qT ?_ | refine qF ?_ | refine qO ?_ | (with_reducible intro z hz); (first | (replace hz := hz (by omega); subst hz) | subst hz)); (try (conv => whnf))))
   refine Imms.mk (R.map itv) rfl ?_
   refine CallB.mk ([.imm (itv y)]) (rgDIC r R) (hB _ _ _ _ _ (by rw [itv_eq y]; exact hCo)) ?_
   rw [itv_eq y]
   (try (conv => whnf)); (repeat ((first | refine qT ?_ | refine qF ?_ | refine qO ?_ | (with_reducible intro z hz); (first | (replace hz := hz (by omega); subst hz) | subst hz)); (try (conv => whnf))))
   refine Pos.mk k rfl (by omega) ?_
   (try (conv => whnf)); (repeat ((first | refine qT ?_ | refine qF ?_ | refine qO ?_ | (with_reducible intro z hz); (first | (replace hz := hz (by omega); subst hz) | subst hz)); (try (conv => whnf))))
   refine At.mk _ hrx ?_
   (try (conv => whnf)); (repeat ((first | refine qT ?_ | refine qF ?_ | refine qO ?_ | (with_reducible intro z hz); (first | (replace hz := hz (by omega); subst hz) | subst hz)); (try (conv => whnf))))
   exact ⟨k + 1, by omega, by dsimp only; omega, ((WeakA.row 6 ((((corK r.cors a.num a.items (k + 1)).map itv).map .imm)) rfl (by rw [← hst]; simp [List.map_set, itv_eq y]; rfl)).trans (qSL 7 rfl rfl))⟩
 | inr hge =>
   obtain rfl : k = a.items.length := by omega
   rw [show corK r.cors a.num a.items a.items.length = corI r.cors a.num 0 a.items by unfold corK; rw [List.take_length, List.drop_length, List.append_nil]]
   (try (conv => whnf)); (repeat ((first | refine qT ?_ | refine qF ?_ | refine qO ?_ | (with_reducible intro z hz); (first | (replace hz := hz (by omega); subst hz) | subst hz)); (try (conv => whnf))))
   refine Imms.mk ((corI r.cors a.num 0 a.items).map itv) rfl ?_
   (try (conv => whnf)); (repeat ((first | refine qT ?_ | refine qF ?_ | refine qO ?_ | (with_reducible intro z hz); (first | (replace hz := hz (by omega); subst hz) | subst hz)); (try (conv => whnf))))
   exact hfin _ (qSL 3 rfl rfl)
end Go.Proofs.YtglkpmhamekpmaaGreat.Po
namespace Go.Proofs.YtglkpmhamekpmaaGreat.Po
open Go Go.Pv Go.RowKit
set_option linter.unusedSimpArgs false
open Lab Lcs Go.Proofs.YtglkpmhamekpmaaGreat Go.Proofs.YtglkpmhamekpmaaGreat.Pu
open Go.Sort (SWO)
open Go.Proofs (ltOf)
theorem cmpZ_lt {a b : Int} : cmpZ a b < 0 ↔ a < b := by unfold cmpZ; repeat' split; all_goals omega
theorem cmpZ_zero {a b : Int} : cmpZ a b = 0 ↔ a = b := by unfold cmpZ; repeat' split; all_goals omega
theorem legE_lt {a b : Ei} : legE a b < 0 ↔ a.day < b.day ∨ (a.day = b.day ∧ (a.act < b.act ∨ (a.act = b.act ∧ a.item < b.item))) := by
 unfold legE
 have h1 := @cmpZ_lt a.day b.day
 have h2 := @cmpZ_lt a.act b.act
 have h3 := @cmpZ_lt a.item b.item
 have h4 := @cmpZ_zero a.day b.day
 have h5 := @cmpZ_zero a.act b.act
 split
 · rename_i h; rw [h1]; have : ¬ a.day = b.day := fun e => h (h4.2 e); omega
 · rename_i h
   have e1 : a.day = b.day := h4.1 (by omega)
   split
   · rename_i g; rw [h2]; have : ¬ a.act = b.act := fun e => g (h5.2 e); omega
   · rename_i g
     have e2 : a.act = b.act := h5.1 (by omega)
     rw [h3]; omega
theorem ltE_iff {a b : Ei} : ltOf legE a b = true ↔ a.day < b.day ∨ (a.day = b.day ∧ (a.act < b.act ∨ (a.act = b.act ∧ a.item < b.item))) := by
 unfold ltOf; rw [decide_eq_true_iff, legE_lt]
theorem ltE_no {a b : Ei} : ltOf legE a b = false ↔ ¬ (a.day < b.day ∨ (a.day = b.day ∧ (a.act < b.act ∨ (a.act = b.act ∧ a.item < b.item)))) := by
 rw [← ltE_iff]; simp
theorem swoE : SWO (ltOf legE) where
 irrefl x := by rw [ltE_no]; omega
 trans x y z h1 h2 := by rw [ltE_iff] at *; omega
 ntrans x y z h1 h2 := by rw [ltE_no] at *; omega
def sameP (a b : Ei) : Prop := a.day = b.day ∧ a.act = b.act ∧ a.item = b.item
theorem sorted_uniq : ∀ {l l' : List Ei}, l'.Perm l → (∀ x ∈ l, ∀ y ∈ l, sameP x y → x = y) → l.Pairwise (fun a b => ltOf legE b a = false) → l'.Pairwise (fun a b => ltOf legE b a = false) → l' = l
 | [], l', hp, _, _, _ => List.Perm.eq_nil hp
 | a :: l, [], hp, _, _, _ => by have := hp.length_eq; simp at this
 | a :: l, b :: l', hp, hd, hs, hs' => by
   have hab : a = b := by
     rw [List.pairwise_cons] at hs hs'
     have h1 : ltOf legE b a = false := by
       rcases List.mem_cons.1 (hp.subset List.mem_cons_self) with h | h
       · rw [h]; exact swoE.irrefl a
       · exact hs.1 b h
     have h2 : ltOf legE a b = false := by
       rcases List.mem_cons.1 (hp.symm.subset List.mem_cons_self) with h | h
       · rw [h]; exact swoE.irrefl b
       · exact hs'.1 a h
     refine hd a List.mem_cons_self b (hp.subset List.mem_cons_self) ?_
     rw [ltE_no] at h1 h2
     unfold sameP
     omega
   subst hab
   rw [List.pairwise_cons] at hs hs'
   rw [sorted_uniq (hp.cons_inv) (fun x hx y hy => hd x (List.mem_cons_of_mem _ hx) y (List.mem_cons_of_mem _ hy)) hs.2 hs'.2]
def sortE (l : List Ei) : List Ei := l.mergeSort fun a b => !(ltOf legE b a)
theorem sortE_perm (l : List Ei) : (sortE l).Perm l := List.mergeSort_perm ..
theorem sortE_sorted (l : List Ei) : (sortE l).Pairwise fun a b => ltOf legE b a = false := by
 have h := List.pairwise_mergeSort (le := fun a b => !(ltOf legE b a)) (fun a b c h1 h2 => by
   simp only [Bool.not_eq_true'] at *
   exact swoE.ntrans c b a h2 h1) (fun a b => by
   simp only [Bool.or_eq_true, Bool.not_eq_true']
   by_cases h : ltOf legE b a = true
   · right; rw [ltE_no]; rw [ltE_iff] at h; omega
   · left; simpa using h) l
 exact h.imp fun h => by simpa using h
theorem sortE_uniq {l l' : List Ei} (hp : l'.Perm l) (hd : ∀ x ∈ l, ∀ y ∈ l, sameP x y → x = y) (hs : l'.Pairwise fun a b => ltOf legE b a = false) : l' = sortE l :=
 sorted_uniq (hp.trans (sortE_perm l).symm) (fun x hx y hy => hd x ((sortE_perm l).subset hx) y ((sortE_perm l).subset hy)) (sortE_sorted l) hs
end Go.Proofs.YtglkpmhamekpmaaGreat.Po
namespace Go.Proofs.YtglkpmhamekpmaaGreat.Po
open Go Go.Pv Go.RowKit
set_option linter.unusedSimpArgs false
open Lab Lcs Go.Proofs.YtglkpmhamekpmaaGreat Go.Proofs.YtglkpmhamekpmaaGreat.Pu
open Go.Sort (SWO)
open Go.Proofs (ltOf)
theorem eisL_mem {n d : Int} : ∀ {l : List It} {i : Nat} {e : Ei}, e ∈ eisL n d i l → e.act = n ∧ e.day = d ∧ (i : Int) ≤ e.item ∧ e.item < i + l.length ∧ ∃ k x, l[k]? = some x ∧ e = ⟨n, ((i + k : Nat) : Int), d, x⟩
 | [], _, _, h => by cases h
 | y :: l, i, e, h => by
   rw [eisL] at h
   rcases List.mem_cons.1 h with rfl | h
   · exact ⟨rfl, rfl, Int.le_refl _, by simp; omega, 0, y, rfl, by simp⟩
   · obtain ⟨h1, h2, h3, h4, k, x, h5, h6⟩ := eisL_mem h
     exact ⟨h1, h2, by omega, by rw [List.length_cons]; omega, k + 1, x, by simpa using h5, by rw [h6]; congr 2; omega⟩
theorem eiA_mem {a : Ac} {e : Ei} (h : e ∈ eiA a) : ∃ (k : Nat) (x : It), a.items[k]? = some x ∧ e = ⟨a.num, (k : Int), a.day, x⟩ := by
 obtain ⟨_, _, _, _, k, x, h5, h6⟩ := eisL_mem h
 exact ⟨k, x, h5, by rw [h6]; congr 2; omega⟩
theorem eisL_at {n d : Int} : ∀ {l : List It} {k i : Nat} {x : It}, l[k]? = some x → (⟨n, ((i + k : Nat) : Int), d, x⟩ : Ei) ∈ eisL n d i l
 | [], _, _, _, h => by simp at h
 | y :: l, 0, i, x, h => by
   obtain rfl : y = x := by simpa using h
   rw [eisL, Nat.add_zero]
   exact List.mem_cons_self
 | y :: l, k + 1, i, x, h => by
   rw [eisL]
   have := eisL_at (n := n) (d := d) (i := i + 1) (l := l) (k := k) (x := x) (by simpa using h)
   rw [show i + (k + 1) = i + 1 + k by omega]
   exact List.mem_cons_of_mem _ this
theorem eiA_at {a : Ac} {k : Nat} {x : It} (h : a.items[k]? = some x) : (⟨a.num, (k : Int), a.day, x⟩ : Ei) ∈ eiA a := by
 have := eisL_at (n := a.num) (d := a.day) (i := 0) h
 rwa [Nat.zero_add] at this
theorem eiA_uniq {a : Ac} {x y : Ei} (hx : x ∈ eiA a) (hy : y ∈ eiA a) (h : x.item = y.item) : x = y := by
 obtain ⟨k, u, h1, rfl⟩ := eiA_mem hx
 obtain ⟨j, v, h2, rfl⟩ := eiA_mem hy
 simp only at h
 obtain rfl : k = j := by omega
 rw [h1] at h2
 injection h2 with h2
 rw [h2]
structure GoodR (Q : Ac → Prop) (r : Rg) : Prop where
 key : ∀ p ∈ r.acts, p.1 = p.2.num
 nodup : (r.acts.map Prod.fst).Nodup
 ok : ∀ p ∈ r.acts, Q p.2
 cor : ∀ n i e, lookL r.cors (n, i) = some e → isC e.it = true ∧ refE e = (n, i) ∧ ∃ a, Q a ∧ e ∈ eiA a
theorem cor_addC {Q : Ac → Prop} {m : CorM} {d : Ei} (h : ∀ n i e, lookL m (n, i) = some e → isC e.it = true ∧ refE e = (n, i) ∧ ∃ a, Q a ∧ e ∈ eiA a) (hd : isC d.it = true) (hq : ∃ a, Q a ∧ d ∈ eiA a) : ∀ n i e, lookL (addC m d) (n, i) = some e → isC e.it = true ∧ refE e = (n, i) ∧ ∃ a, Q a ∧ e ∈ eiA a := by
 intro n i e he
 have hput : ∀ e, lookL (putL m (refE d) d) (n, i) = some e → isC e.it = true ∧ refE e = (n, i) ∧ ∃ a, Q a ∧ e ∈ eiA a := fun e he => by
   rw [lookL_put] at he
   split at he
   · rename_i hr
     injection he with he
     rw [← he]
     exact ⟨hd, hr, hq⟩
   · exact h n i e he
 unfold addC at he
 split at he
 · exact hput e he
 · split at he
   · exact hput e he
   · exact h n i e he
theorem cor_fold {Q : Ac → Prop} {a : Ac} (hq : Q a) : ∀ (l : List Ei) (m : CorM), (∀ e ∈ l, e ∈ eiA a) → (∀ n i e, lookL m (n, i) = some e → isC e.it = true ∧ refE e = (n, i) ∧ ∃ a, Q a ∧ e ∈ eiA a) → ∀ n i e, lookL (l.foldl addI m) (n, i) = some e → isC e.it = true ∧ refE e = (n, i) ∧ ∃ a, Q a ∧ e ∈ eiA a
 | [], m, _, h => h
 | d :: l, m, hl, h => by
   rw [List.foldl_cons]
   refine cor_fold hq l _ (fun e he => hl e (List.mem_cons_of_mem _ he)) ?_
   unfold addI
   split
   · rename_i hd
     exact cor_addC h hd ⟨a, hq, hl d List.mem_cons_self⟩
   · exact h
theorem good_add {Q : Ac → Prop} {r : Rg} {a : Ac} (h : GoodR Q r) (hq : Q a) : GoodR Q (addA r a) := by
 unfold addA
 cases hl : lookL r.acts a.num with
 | some b => exact ⟨h.key, h.nodup, h.ok, h.cor⟩
 | none =>
   dsimp only
   rw [putL_new hl]
   refine ⟨fun p hp => ?_, ?_, fun p hp => ?_, cor_fold hq (eiA a) r.cors (fun e he => he) h.cor⟩
   · rcases List.mem_append.1 hp with hp | hp
     · exact h.key p hp
     · obtain rfl := List.mem_singleton.1 hp; rfl
   · rw [List.map_append, List.nodup_append]
     refine ⟨h.nodup, by simp, ?_⟩
     intro x hx y hy
     simp only [List.map_cons, List.map_nil, List.mem_singleton] at hy
     subst hy
     intro e
     rw [e] at hx
     exact (lookL_none.1 hl) hx
   · rcases List.mem_append.1 hp with hp | hp
     · exact h.ok p hp
     · obtain rfl := List.mem_singleton.1 hp; exact hq
theorem good_nil {Q : Ac → Prop} : GoodR Q ⟨[], [], []⟩ := ⟨fun _ h => (by cases h), List.nodup_nil, fun _ h => (by cases h), fun _ _ _ h => (by cases h)⟩
theorem good_acts {Q : Ac → Prop} : ∀ (l : List Ac) (r : Rg), (∀ a ∈ l, Q a) → GoodR Q r → GoodR Q (l.foldl addA r)
 | [], _, _, h => h
 | a :: l, _, hl, h => good_acts l _ (fun b hb => hl b (List.mem_cons_of_mem _ hb)) (good_add h (hl a List.mem_cons_self))
theorem good_all {Q : Ac → Prop} : ∀ (l : List Gz) (r : Rg), (∀ g ∈ l, ∀ a ∈ g.acts, Q a) → GoodR Q r → GoodR Q (l.foldl addG r)
 | [], _, _, h => h
 | g :: l, r, hl, h => good_all l _ (fun b hb => hl b (List.mem_cons_of_mem _ hb)) (good_acts g.acts r (hl g List.mem_cons_self) h)
theorem good_reg {Q : Ac → Prop} {l : List Gz} (hl : ∀ g ∈ l, ∀ a ∈ g.acts, Q a) : GoodR Q (regO l) := good_all l _ hl good_nil
theorem isC_by {x : It} (h : isC x = true) : ∃ y q, x.bys = y :: q := by
 unfold isC at h
 cases hb : x.bys with
 | nil => rw [hb] at h; simp at h
 | cons y r => exact ⟨y, r, rfl⟩
theorem GoodR.okc {Q : Ac → Prop} {r : Rg} (h : GoodR Q r) : OkC' r.cors := fun n i e he => isC_by (h.cor n i e he).1
def flatA (m : CorM) (l : AcM) : List Ei := l.flatMap fun p => eiA (corA m p.2)
def flatR (r : Rg) : List Ei := flatA r.cors r.acts
theorem nodup_fst {κ ν : Type} {p q : κ × ν} : ∀ {l : List (κ × ν)}, (l.map Prod.fst).Nodup → p ∈ l → q ∈ l → p.1 = q.1 → p = q
 | [], _, h, _, _ => by cases h
 | x :: l, hn, hp, hq, e => by
   rw [List.map_cons, List.nodup_cons] at hn
   rcases List.mem_cons.1 hp with h1 | hp
   · rcases List.mem_cons.1 hq with h2 | hq
     · rw [h1, h2]
     · exact absurd (show x.1 ∈ l.map Prod.fst by rw [← h1, e]; exact List.mem_map_of_mem hq) hn.1
   · rcases List.mem_cons.1 hq with h2 | hq
     · exact absurd (show x.1 ∈ l.map Prod.fst by rw [← h2, ← e]; exact List.mem_map_of_mem hp) hn.1
     · exact nodup_fst hn.2 hp hq e
theorem flat_uniq {m : CorM} : ∀ {l : AcM}, (∀ p ∈ l, p.1 = p.2.num) → (l.map Prod.fst).Nodup → ∀ x ∈ flatA m l, ∀ y ∈ flatA m l, sameP x y → x = y := by
 intro l hk hn x hx y hy hs
 unfold flatA at hx hy
 obtain ⟨p, hp, hx⟩ := List.mem_flatMap.1 hx
 obtain ⟨q, hq, hy⟩ := List.mem_flatMap.1 hy
 have hx0 := hx
 have hy0 := hy
 obtain ⟨k, u, h1, rfl⟩ := eiA_mem hx
 obtain ⟨j, v, h2, rfl⟩ := eiA_mem hy
 obtain ⟨s1, s2, s3⟩ := hs
 simp only [corA] at s2
 have hpq : p = q := by
   have e : p.1 = q.1 := by rw [hk p hp, hk q hq]; exact s2
   exact nodup_fst hn hp hq e
 subst hpq
 exact eiA_uniq hx0 hy0 s3
theorem deeds_uniq {Q : Ac → Prop} {r : Rg} (h : GoodR Q r) : ∀ x ∈ flatR r, ∀ y ∈ flatR r, sameP x y → x = y := flat_uniq h.key h.nodup
end Go.Proofs.YtglkpmhamekpmaaGreat.Po
