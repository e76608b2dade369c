/-
  The reference's Set, Same. The law of Set and Get.
-/
import Derived.Test.YtdkalehijilchaaWCs
import Derived.Test.YtdkalehijilchaaWCd
import Derived.Test.YtdkalehijilchaaWCl
namespace Go.Proofs.Ytdkalehijilchaa.Pb
open Go Go.Pv Go.RowKit
set_option linter.unusedSimpArgs false
open Lab Lcs Go.Proofs.Ytdkalehijilchaa Go.Proofs.Ytdkalehijilchaa.Pu Go.Proofs.Ytdkalehijilchaa.Pt
set_option maxRecDepth 10000
set_option maxHeartbeats 16000000
theorem pcArg {P : Program} {X : Env} {f : FuncId} {args args' res : List IV} (h : PC P X f args' res) (hl : ILes args args') : PC P X f args res :=
 ⟨h.1, fun Q w vs hQ hg hX hvs => h.2 Q w vs hQ hg hX (hl.rep hvs)⟩
theorem same9_pc (N : Nat) : ∀ u : Ut, u.count ≤ N → Smb u → PC Try.prog env0 12 [uv u, uv u] [.bool true] := by
 induction N with
 | zero => intro u h; have := count_pos u; omega
 | succ N ih =>
 intro u hN hsb
 have hue := uv_eq u
 obtain ⟨b1, b2, b3⟩ := hsb u (all_self u)
 have hW1 := words_pc u.head u.head (by omega)
 have hW2 := words_pc u.words u.words (by omega)
 rw [decide_eq_true rfl] at hW1 hW2
 have hkl : (u.kids.map uv).length = u.kids.length := List.length_map _
 have hid : eqC [.int .i64 u.id.x, .int .i64 u.id.y, .int .i64 u.id.z] [.int .i64 u.id.x, .int .i64 u.id.y, .int .i64 u.id.z] = true := by simp [eqC]
 rw [hue]
 refine PC.of_va (T := tb0) eqs_ok tb_ok rfl mixed Try.func12 rfl rfl (Nat.le_of_ble_eq_true rfl) ?_; intro Γ C WK LP fin h0 hW hC hB hR hLP hfin
 (try (conv => whnf)); (repeat ((first | refine qT ?_ | refine qF ?_ | refine qO ?_ | (with_reducible intro z hz); (first | (replace hz := hz (by omega); subst hz) | subst hz) | (refine CallV.mk _ (hC _ _ _ (PCw.of hW1)) (fun js hjs => ?_); subst hjs) | (refine CallV.mk _ (hC _ _ _ (PCw.of hW2)) (fun js hjs => ?_); subst hjs)); (try (conv => whnf))))
 refine hLP _ _ _ Nat (fun k => ⟨[(2, .ptr 0 1 0), (3, .ptr 1 1 0), (5, .imm (.int .i64 (k : Nat)))], [.box 1 [.imm (.int .i64 u.id.x), .imm (.int .i64 u.id.y), .imm (.int .i64 u.id.z), .imm (.int .i64 u.kind), .imm (.str u.label), .imm (.sl 4 (u.head.map wdv)), .imm (.sl 4 (u.words.map wdv)), .imm (.sl 8 (u.kids.map uv))], .box 1 [.imm (.int .i64 u.id.x), .imm (.int .i64 u.id.y), .imm (.int .i64 u.id.z), .imm (.int .i64 u.kind), .imm (.str u.label), .imm (.sl 4 (u.head.map wdv)), .imm (.sl 4 (u.words.map wdv)), .imm (.sl 8 (u.kids.map uv))]]⟩) (fun k => k ≤ u.kids.length) (fun k => u.kids.length - k) 0 (Nat.zero_le _) (qSL 2 rfl rfl (hE := by (repeat ((conv => whnf); first | exact trivial | refine And.intro (by first | exact WkOne.any | exact WkOne.eq (by with_reducible rfl) rfl | exact WkOne.eq (congrArg (fun z => PV.imm (IV.int IntKind.i64 z)) (by first | omega | (simp [hkl]; done) | (simp [hkl]; omega))) rfl | exact WkOne.eq (by first | (simp [hkl]; done) | fail) rfl | exact WkOne.eq rfl rfl | exact WkOne.le rfl (ILe.nil _)) ?_)))) ?_
 intro k hk
 have hho := Nat.lt_or_ge k u.kids.length
 cases hho with
 | inl hlt =>
   refine (?_ : ∀ Q : Exit → AS → Prop, vcS _ _ _ _ _ _ _ (loopQA _ _ _ _ _ _ Q)) _; intro Q
   obtain ⟨x, hx⟩ : ∃ x, u.kids[k]? = some x := ⟨u.kids[k], List.getElem?_eq_getElem hlt⟩
   have h1 := kid_lt' hx
   have hux := uv_eq x
   have hI := ih x (by omega) (hsb.kid (List.mem_of_getElem? hx))
   rw [hux] at hI
   (try (conv => whnf)); (repeat ((first | refine qT ?_ | refine qF ?_ | refine qO ?_ | (with_reducible intro z hz); (first | (replace hz := hz (by omega); subst hz) | subst hz)); (try (conv => whnf))))
   refine Idx.mk k (uv x) _ rfl (by simp [hx]) (by rw [hux]; try rfl) ?_
   (try (conv => whnf)); (repeat ((first | refine qT ?_ | refine qF ?_ | refine qO ?_ | (with_reducible intro z hz); (first | (replace hz := hz (by omega); subst hz) | subst hz)); (try (conv => whnf))))
   refine Idx.mk k (uv x) _ rfl (by simp [hx]) (by rw [hux]; try rfl) ?_
   (try (conv => whnf)); (repeat ((first | refine qT ?_ | refine qF ?_ | refine qO ?_ | (with_reducible intro z hz); (first | (replace hz := hz (by omega); subst hz) | subst hz) | (refine CallV.mk _ (hC _ _ _ (PCw.of hI)) (fun js hjs => ?_); subst hjs)); (try (conv => whnf))))
   exact ⟨k + 1, by omega, by dsimp only; omega, (qSL 2 rfl rfl)⟩
 | inr hge =>
   obtain rfl : k = u.kids.length := by omega
   (try (conv => whnf)); (repeat ((first | refine qT ?_ | refine qF ?_ | refine qO ?_ | (with_reducible intro z hz); (first | (replace hz := hz (by omega); subst hz) | subst hz)); (try (conv => whnf))))
   exact hfin _ (ILes.refl _)
theorem rset_pcb (t : Ut) (i j : Nat) (x y : Ut) (hx : t.kids[i]? = some x) (hy : x.kids[j]? = some y) (h1 : t.kids.length ≤ 60) (h2 : x.kids.length ≤ 60) (l : List Wd) (hl : l.length ≤ 256) :
   PCB Try.prog env0 13 [.imm (uv t), .imm (.int .i64 (i : Nat)), .imm (.int .i64 (j : Nat)), .imm (.sl 4 (l.map wdv))] [] [.imm (uv (putK t i (putK x j (putW y l))))] [] := by
 have hte := uv_eq t
 have hll : (l.map wdv).length = l.length := List.length_map _
 have hil := (List.getElem?_eq_some_iff.1 hx).1
 have hjl := (List.getElem?_eq_some_iff.1 hy).1
 have hxe := uv_eq x
 have hye := uv_eq y
 have hk1 : (t.kids.map uv).length = t.kids.length := List.length_map _
 have hk2 : (x.kids.map uv).length = x.kids.length := List.length_map _
 have hpe : uv (putK t i (putK x j (putW y l))) = .agg [.int .i64 t.id.x, .int .i64 t.id.y, .int .i64 t.id.z, .int .i64 t.kind, .str t.label, .sl 4 (t.head.map wdv), .sl 4 (t.words.map wdv), .sl 8 ((t.kids.set i (putK x j (putW y l))).map uv)] := uv_mk _ _ _ _ _ _
 have hpx : uv (putK x j (putW y l)) = .agg [.int .i64 x.id.x, .int .i64 x.id.y, .int .i64 x.id.z, .int .i64 x.kind, .str x.label, .sl 4 (x.head.map wdv), .sl 4 (x.words.map wdv), .sl 8 ((x.kids.set j (putW y l)).map uv)] := uv_mk _ _ _ _ _ _
 have hpy : uv (putW y l) = .agg [.int .i64 y.id.x, .int .i64 y.id.y, .int .i64 y.id.z, .int .i64 y.kind, .str y.label, .sl 4 (y.head.map wdv), .sl 4 (l.map wdv), .sl 8 (y.kids.map uv)] := uv_mk _ _ _ _ _ _
 rw [hpe]
 rw [hte]
 refine PCB.of_va (T := tb0) eqs_ok tb_ok rfl mixed Try.func13 rfl rfl rfl (Nat.le_of_ble_eq_true rfl) rfl ?_; intro Γ C WK LP fin h0 hk0 hW hC hB hR hLP hfin
 (try (conv => whnf)); (repeat ((first | refine qT ?_ | refine qF ?_ | refine qO ?_ | (with_reducible intro z hz); (first | (replace hz := hz (by omega); subst hz) | subst hz)); (try (conv => whnf))))
 refine Pos.mk i rfl (by simp; omega) ?_
 (try (conv => whnf)); (repeat ((first | refine qT ?_ | refine qF ?_ | refine qO ?_ | (with_reducible intro z hz); (first | (replace hz := hz (by omega); subst hz) | subst hz)); (try (conv => whnf))))
 refine At.mk (.imm (uv x)) (by simp [hx]) ?_
 rw [hxe]
 (try (conv => whnf)); (repeat ((first | refine qT ?_ | refine qF ?_ | refine qO ?_ | (with_reducible intro z hz); (first | (replace hz := hz (by omega); subst hz) | subst hz)); (try (conv => whnf))))
 refine Pos.mk i rfl (by simp; omega) ?_
 (try (conv => whnf)); (repeat ((first | refine qT ?_ | refine qF ?_ | refine qO ?_ | (with_reducible intro z hz); (first | (replace hz := hz (by omega); subst hz) | subst hz)); (try (conv => whnf))))
 refine At.mk (.imm (uv x)) (by simp [hx]) ?_
 rw [hxe]
 (try (conv => whnf)); (repeat ((first | refine qT ?_ | refine qF ?_ | refine qO ?_ | (with_reducible intro z hz); (first | (replace hz := hz (by omega); subst hz) | subst hz)); (try (conv => whnf))))
 refine Pos.mk i rfl (by simp; omega) ?_
 (try (conv => whnf)); (repeat ((first | refine qT ?_ | refine qF ?_ | refine qO ?_ | (with_reducible intro z hz); (first | (replace hz := hz (by omega); subst hz) | subst hz)); (try (conv => whnf))))
 refine At.mk (ownU x 4 2) (by rw [List.getElem?_set_self (by simp; omega)]; rfl) ?_
 (try (conv => whnf)); (repeat ((first | refine qT ?_ | refine qF ?_ | refine qO ?_ | (with_reducible intro z hz); (first | (replace hz := hz (by omega); subst hz) | subst hz)); (try (conv => whnf))))
 refine Pos.mk j rfl (by simp; omega) ?_
 (try (conv => whnf)); (repeat ((first | refine qT ?_ | refine qF ?_ | refine qO ?_ | (with_reducible intro z hz); (first | (replace hz := hz (by omega); subst hz) | subst hz)); (try (conv => whnf))))
 refine At.mk (.imm (uv y)) (by simp [hy]) ?_
 rw [hye]
 (try (conv => whnf)); (repeat ((first | refine qT ?_ | refine qF ?_ | refine qO ?_ | (with_reducible intro z hz); (first | (replace hz := hz (by omega); subst hz) | subst hz)); (try (conv => whnf))))
 exact hfin _ (((WeakA.row 2 ((((t.kids.map uv).map PV.imm).set i (ownU x 4 2))) rfl (by rfl))).trans (((WeakA.row 4 ((((x.kids.map uv).map PV.imm).set j (PV.agg [.imm (.int .i64 y.id.x), .imm (.int .i64 y.id.y), .imm (.int .i64 y.id.z), .imm (.int .i64 y.kind), .imm (.str y.label), .imm (.sl 4 (y.head.map wdv)), .row 6 2, .imm (.sl 8 (y.kids.map uv))]))) rfl (by rfl))).trans ((WeakA.frz 6 (l.map wdv) rfl rfl (ILe.refl _)).trans (((WeakA.row 4 ((((x.kids.set j (putW y l)).map uv).map .imm)) rfl (by rw [fzL_set, fzL_imm, List.map_set, List.map_set, hpy]; rfl))).trans (((WeakA.row 2 ((((t.kids.map uv).map PV.imm).set i (ownU x 4 2))) rfl (by rw [fzL_set, fzL_imm]; rfl))).trans ((WeakA.frz 4 ((x.kids.set j (putW y l)).map uv) rfl rfl (ILe.refl _)).trans (((WeakA.row 2 ((((t.kids.set i (putK x j (putW y l))).map uv).map .imm)) rfl (by rw [fzL_set, fzL_imm]; simp only [List.map_set, hpx]; rfl))).trans ((WeakA.frz 2 ((t.kids.set i (putK x j (putW y l))).map uv) rfl rfl (ILe.refl _)).trans (qSL 0 rfl rfl)))))))))
theorem rset_pc (t : Ut) (i j : Nat) (x y : Ut) (hx : t.kids[i]? = some x) (hy : x.kids[j]? = some y) (h1 : t.kids.length ≤ 60) (h2 : x.kids.length ≤ 60) (l : List Wd) (hl : l.length ≤ 256) :
   PC Try.prog env0 13 [uv t, .int .i64 (i : Nat), .int .i64 (j : Nat), .sl 4 (l.map wdv)] [uv (putK t i (putK x j (putW y l)))] := (rset_pcb t i j x y hx hy h1 h2 l hl).pc1
theorem set_yes_pc (t : Ut) (hsk : Smk t) (hsb : Smb t) (hN : t.count ≤ 1000) (i j : Nat) (x y : Ut) (hx : t.kids[i]? = some x) (hy : x.kids[j]? = some y) (hb : hasB t (i : Int) (j : Int) = true) (l : List Wd) (hl : l.length ≤ 256) :
   PC Try.prog env0 9 [uv t, .int .i64 (i : Nat), .int .i64 (j : Nat), .sl 4 (l.map wdv)] [uv (putK t i (putK x j (putW y l))), .bool true] := pc2 (set_pcb t hsk hsb hN i j x y hx hy hb l hl)
theorem set_no_pc (t : Ut) (hsk : Smk t) (r c : Int) (l : List Wd) (hl : l.length ≤ 100000) (hno : (hasB t r c && decide (l.length ≤ 256)) = false) :
   PC Try.prog env0 9 [uv t, .int .i64 r, .int .i64 c, .sl 4 (l.map wdv)] [uv zeroU, .bool false] := by
 have hte := uv_eq t
 have hH := has_pk t hsk r c
 have hll : (l.map wdv).length = l.length := List.length_map _
 rw [hte] at hH ⊢
 cases hb : hasB t r c
 · rw [hb] at hH
   refine PC.of_va (T := tb0) eqs_ok tb_ok rfl mixed Try.func9 rfl rfl (Nat.le_of_ble_eq_true rfl) ?_; intro Γ C WK LP fin h0 hW hC hB hR hLP hfin
   (try (conv => whnf)); (repeat ((first | refine qT ?_ | refine qF ?_ | refine qO ?_ | (with_reducible intro z hz); (first | (replace hz := hz (by omega); subst hz) | subst hz) | (refine CallV.mk _ (hC _ _ _ (PCw.of hH)) (fun js hjs => ?_); subst hjs)); (try (conv => whnf))))
   exact hfin _ (.cons zero_le (.refl _))
 · rw [hb] at hH hno
   have hl2 : 256 < l.length := by simpa using hno
   refine PC.of_va (T := tb0) eqs_ok tb_ok rfl mixed Try.func9 rfl rfl (Nat.le_of_ble_eq_true rfl) ?_; intro Γ C WK LP fin h0 hW hC hB hR hLP hfin
   (try (conv => whnf)); (repeat ((first | refine qT ?_ | refine qF ?_ | refine qO ?_ | (with_reducible intro z hz); (first | (replace hz := hz (by omega); subst hz) | subst hz) | (refine CallV.mk _ (hC _ _ _ (PCw.of hH)) (fun js hjs => ?_); subst hjs)); (try (conv => whnf))))
   exact hfin _ (.cons zero_le (.refl _))
end Go.Proofs.Ytdkalehijilchaa.Pb
namespace Go.Proofs.Ytdkalehijilchaa.Pb
open Go Go.Pv Go.RowKit
set_option linter.unusedSimpArgs false
open Lab Lcs Go.Proofs.Ytdkalehijilchaa Go.Proofs.Ytdkalehijilchaa.Pu Go.Proofs.Ytdkalehijilchaa.Pt
set_option maxRecDepth 10000
set_option maxHeartbeats 16000000
theorem Smb.k {t : Ut} (h : Smb t) : Smk t := fun x hx => ⟨(h x hx).1, (h x hx).2.1⟩
theorem big_smb {t : Ut} (h : bigB t = false) : Smb t := by
 obtain ⟨hS, _⟩ := big_small h
 unfold bigB at h
 simp only [Bool.or_eq_false_iff] at h
 obtain ⟨_, h2⟩ := h
 rw [wyR_all, List.any_eq_false] at h2
 intro x hx
 have h3 := h2 x hx
 unfold wy1 at h3
 simp only [Bool.or_eq_true, decide_eq_true_eq, not_or] at h3
 exact ⟨(hS x hx).1, (hS x hx).2.1, by omega⟩
theorem alls_mem {l : List Ut} {y : Ut} : y ∈ Ut.alls l ↔ ∃ z ∈ l, y ∈ z.all := by
 induction l with
 | nil => simp [Ut.alls]
 | cons a l ih =>
   simp only [Ut.alls, List.mem_append, ih, List.mem_cons]
   constructor
   · rintro (h | ⟨z, hz, h⟩)
     · exact ⟨a, Or.inl rfl, h⟩
     · exact ⟨z, Or.inr hz, h⟩
   · rintro ⟨z, rfl | hz, h⟩
     · exact Or.inl h
     · exact Or.inr ⟨z, hz, h⟩
theorem mem_set_or {l : List Ut} {k : Nat} {p z : Ut} (h : z ∈ l.set k p) : z = p ∨ z ∈ l := (List.mem_or_eq_of_mem_set h).symm
theorem all_putK {x w z : Ut} {k : Nat} (h : z ∈ (putK x k w).all) : z = putK x k w ∨ z ∈ w.all ∨ z ∈ x.all := by
 rw [Ut.all_eq] at h
 rcases List.mem_cons.1 h with h | h
 · exact Or.inl h
 · obtain ⟨y, hy, hz⟩ := alls_mem.1 h
   rcases mem_set_or (show y ∈ x.kids.set k w from hy) with rfl | hy
   · exact Or.inr (Or.inl hz)
   · exact Or.inr (Or.inr (all_kid hy z hz))
theorem put_smb {t x y : Ut} {i j : Nat} (hx : t.kids[i]? = some x) (hy : x.kids[j]? = some y) {l : List Wd} (hl : l.length ≤ 256) (h : Smb t) : Smb (putK t i (putK x j (putW y l))) := by
 have hxm := List.mem_of_getElem? hx
 have hym := List.mem_of_getElem? hy
 have ht := h t (all_self t)
 have hxx := h x (all_kid hxm x (all_self x))
 have hyy := h y (all_kid hxm y (all_kid hym y (all_self y)))
 intro z hz
 rcases all_putK hz with rfl | hz | hz
 · exact ⟨by show (t.kids.set i _).length ≤ 60; rw [List.length_set]; exact ht.1, ht.2⟩
 · rcases all_putK hz with rfl | hz | hz
   · exact ⟨by show (x.kids.set j _).length ≤ 60; rw [List.length_set]; exact hxx.1, hxx.2⟩
   · rw [Ut.all_eq] at hz
     rcases List.mem_cons.1 hz with rfl | hz
     · exact ⟨hyy.1, by show l.length ≤ 300; omega, hyy.2.2⟩
     · exact h z (all_kid hxm z (all_kid hym z (by rw [Ut.all_eq]; exact List.mem_cons_of_mem _ hz)))
   · exact h z (all_kid hxm z hz)
 · exact h z hz
theorem row_set {x y v : Ut} {j n : Nat} (hy : x.kids[j]? = some y) (h7 : v.kind = y.kind) (hk : v.kids = y.kids) (h : rOk n x = true) : rOk n (putK x j v) = true := by
 unfold rOk at h ⊢
 simp only [Bool.and_eq_true, decide_eq_true_eq, List.all_eq_true] at h ⊢
 refine ⟨h.1, by show (x.kids.set j v).length = n; rw [List.length_set]; exact h.2.1, fun z hz => ?_⟩
 rcases mem_set_or (show z ∈ x.kids.set j v from hz) with rfl | hz
 · have := h.2.2 y (List.mem_of_getElem? hy)
   unfold cellB at this ⊢
   rw [h7, hk]
   exact this
 · exact h.2.2 z hz
theorem cols_put {t x w : Ut} {i : Nat} (hx : t.kids[i]? = some x) (hw : w.kids.length = x.kids.length) : colsN (putK t i w) = colsN t := by
 unfold colsN
 show (((t.kids.set i w)[0]?).map fun r => r.kids.length).getD 0 = _
 by_cases h : i = 0
 · subst h
   rw [List.getElem?_set_self (List.getElem?_eq_some_iff.1 hx).1, hx]
   exact hw
 · rw [List.getElem?_set_ne h]
theorem valid_put {t x w : Ut} {i : Nat} (hx : t.kids[i]? = some x) (hw : w.kids.length = x.kids.length) (hr : ∀ n, rOk n x = true → rOk n w = true) (hv : validT t = true) : validT (putK t i w) = true := by
 have hrow : ∀ z ∈ t.kids, rOk (colsN t) z = true := fun z hz => by
   cases h : rOk (colsN t) z
   · rw [valid_bad hz h] at hv; cases hv
   · rfl
 have h0 := hv
 unfold validT at h0
 simp only [Bool.and_eq_true, decide_eq_true_eq] at h0
 have h1 := valid_good h0.1 h0.2.1 hrow
 rw [hv] at h1
 have hc := cols_put hx hw
 rw [valid_good (t := putK t i w) h0.1 (by
   have := h0.2.1
   unfold numB at this ⊢
   rw [show (putK t i w).kids.length = t.kids.length from List.length_set]
   exact this) (fun z hz => by
   rw [hc]
   rcases mem_set_or (show z ∈ t.kids.set i w from hz) with rfl | hz
   · exact hr _ (hrow x (List.mem_of_getElem? hx))
   · exact hrow z hz), hc]
 exact h1.symm
theorem has_put {t x y : Ut} {i j : Nat} (hx : t.kids[i]? = some x) (hy : x.kids[j]? = some y) (l : List Wd) (hv : validT t = true) (p q : Int) : hasB (putK t i (putK x j (putW y l))) p q = hasB t p q := by
 have hw : (putK x j (putW y l)).kids.length = x.kids.length := List.length_set
 have hv2 := valid_put hx hw (fun n h => row_set hy rfl rfl h) hv
 unfold hasB rowsV colsV
 rw [hv2, hv, cols_put hx hw, show (putK t i (putK x j (putW y l))).kids.length = t.kids.length from List.length_set]
theorem getW_at {t : Ut} {i j : Nat} {x y : Ut} (hb : hasB t (i : Int) (j : Int) = true) (hx : t.kids[i]? = some x) (hy : x.kids[j]? = some y) : getW t (i : Int) (j : Int) = y.words := by
 unfold getW
 rw [if_pos hb, Int.toNat_natCast, Int.toNat_natCast, hx]
 unfold cellW
 show ((x.kids[j]?).map Ut.words).getD [] = y.words
 rw [hy]
 rfl
theorem get_put {t x y : Ut} {i j : Nat} (hx : t.kids[i]? = some x) (hy : x.kids[j]? = some y) (l : List Wd) (hv : validT t = true) (hb : hasB t (i : Int) (j : Int) = true) : getW (putK t i (putK x j (putW y l))) (i : Int) (j : Int) = l := by
 have h1 : (putK t i (putK x j (putW y l))).kids[i]? = some (putK x j (putW y l)) := List.getElem?_set_self (List.getElem?_eq_some_iff.1 hx).1
 have h2 : (putK x j (putW y l)).kids[j]? = some (putW y l) := List.getElem?_set_self (List.getElem?_eq_some_iff.1 hy).1
 exact getW_at (by rw [has_put hx hy l hv]; exact hb) h1 h2
theorem get_other {t x y : Ut} {i j : Nat} (hx : t.kids[i]? = some x) (hy : x.kids[j]? = some y) (l : List Wd) (hv : validT t = true) {p q : Int} (hne : ¬ (p = (i : Int) ∧ q = (j : Int))) : getW (putK t i (putK x j (putW y l))) p q = getW t p q := by
 have hh := has_put hx hy l hv p q
 cases hb : hasB t p q with
 | false =>
   rw [hb] at hh
   unfold getW
   rw [hh, hb]
   rfl
 | true =>
   obtain ⟨a, b, x', y', rfl, rfl, _, hx', hy'⟩ := has_at hb
   rw [getW_at hb hx' hy']
   rw [hb] at hh
   by_cases hia : i = a
   · subst hia
     obtain rfl : x = x' := Option.some.inj (hx.symm.trans hx')
     have hjb : j ≠ b := fun h => hne ⟨rfl, by rw [h]⟩
     refine getW_at hh (x := putK x j (putW y l)) (List.getElem?_set_self (List.getElem?_eq_some_iff.1 hx).1) ?_
     show (x.kids.set j (putW y l))[b]? = _
     rw [List.getElem?_set_ne hjb]
     exact hy'
   · refine getW_at hh (x := x') ?_ hy'
     show (t.kids.set i _)[a]? = _
     rw [List.getElem?_set_ne hia]
     exact hx'
theorem getW_len {t : Ut} (h : Smk t) (p q : Int) : (getW t p q).length ≤ 300 := by
 cases hb : hasB t p q with
 | false => unfold getW; rw [hb]; simp
 | true =>
   obtain ⟨a, b, x, y, rfl, rfl, _, hx, hy⟩ := has_at hb
   rw [getW_at hb hx hy]
   exact ((h.kid (List.mem_of_getElem? hx)).kid (List.mem_of_getElem? hy) y (all_self y)).2
theorem zero_smb : Smb zeroU := by
 intro x hx
 unfold zeroU at hx
 rw [all_mk] at hx
 simp only [Ut.alls, List.mem_singleton] at hx
 subst hx
 exact ⟨Nat.zero_le _, Nat.zero_le _, Nat.zero_le _⟩
theorem tgetset_pc (t : Ut) (r c : Int) (l : List Wd) (i k : Int) : PC Try.prog env0 3 [uv t, .int .i64 r, .int .i64 c, .sl 4 (l.map wdv), .int .i64 i, .int .i64 k] [.bool true] := by
 have hA := awake_pc
 have hF := big_pc t
 have hte := uv_eq t
 have hll : (l.map wdv).length = l.length := List.length_map _
 by_cases hb : bigB t = true
 · rw [hb] at hF
   rw [hte] at hF ⊢
   refine PC.of_va (T := tb0) eqs_ok tb_ok rfl mixed Try.func3 rfl rfl (Nat.le_of_ble_eq_true rfl) ?_; intro Γ C WK LP fin h0 hW hC hB hR hLP hfin
   (try (conv => whnf)); (repeat ((first | refine qT ?_ | refine qF ?_ | refine qO ?_ | (with_reducible intro z hz); (first | (replace hz := hz (by omega); subst hz) | subst hz) | (refine CallV.mk _ (hC _ _ _ (PCw.of hA)) (fun js hjs => ?_); subst hjs) | (refine CallV.mk _ (hC _ _ _ (PCw.of hF)) (fun js hjs => ?_); subst hjs)); (try (conv => whnf))))
   exact hfin _ (ILes.refl _)
 rw [Bool.not_eq_true] at hb
 obtain ⟨hS, hct⟩ := big_small hb
 have hsb := big_smb hb
 rw [hb] at hF
 by_cases h300 : 300 < l.length
 · rw [hte] at hF ⊢
   refine PC.of_va (T := tb0) eqs_ok tb_ok rfl mixed Try.func3 rfl rfl (Nat.le_of_ble_eq_true rfl) ?_; intro Γ C WK LP fin h0 hW hC hB hR hLP hfin
   (try (conv => whnf)); (repeat ((first | refine qT ?_ | refine qF ?_ | refine qO ?_ | (with_reducible intro z hz); (first | (replace hz := hz (by omega); subst hz) | subst hz) | (refine CallV.mk _ (hC _ _ _ (PCw.of hA)) (fun js hjs => ?_); subst hjs) | (refine CallV.mk _ (hC _ _ _ (PCw.of hF)) (fun js hjs => ?_); subst hjs)); (try (conv => whnf))))
   exact hfin _ (ILes.refl _)
 have hG := get_pk t hsb.k i k
 have hHs := rhas_pc t hS r c
 have hwl := getW_len hsb.k i k
 have hWW := words_pc (getW t i k) (getW t i k) (by omega)
 rw [decide_eq_true rfl] at hWW
 by_cases hno : (hasB t r c && decide (l.length ≤ 256)) = false
 · have hSt := set_no_pc t hsb.k r c l (by omega) hno
   have hze := uv_eq zeroU
   have hsm := pcArg (args := [uv zeroU, .agg [.int .i64 0, .int .i64 0, .int .i64 0, .int .i64 0, .str ⟨#[]⟩, .nil, .nil, .nil]]) (same9_pc zeroU.count zeroU (Nat.le_refl _) zero_smb) (.cons (ILe.refl _) (.cons zero_le (.refl _)))
   rw [hze] at hSt hsm
   generalize getW t i k = w at hG hWW
   generalize hasB t i k = h at hG
   cases hrc : hasB t r c
   · rw [hrc] at hHs
     rw [hte] at hF hG hHs hSt ⊢
     cases h
     · refine PC.of_va (T := tb0) eqs_ok tb_ok rfl mixed Try.func3 rfl rfl (Nat.le_of_ble_eq_true rfl) ?_; intro Γ C WK LP fin h0 hW hC hB hR hLP hfin
       (try (conv => whnf)); (repeat ((first | refine qT ?_ | refine qF ?_ | refine qO ?_ | (with_reducible intro z hz); (first | (replace hz := hz (by omega); subst hz) | subst hz) | (refine CallV.mk _ (hC _ _ _ (PCw.of hA)) (fun js hjs => ?_); subst hjs) | (refine CallV.mk _ (hC _ _ _ (PCw.of hF)) (fun js hjs => ?_); subst hjs) | (refine CallV.mk _ (hC _ _ _ (PCw.of hG)) (fun js hjs => ?_); subst hjs) | (refine CallV.mk _ (hC _ _ _ (PCw.of hSt)) (fun js hjs => ?_); subst hjs) | (refine CallV.mk _ (hC _ _ _ (PCw.of hHs)) (fun js hjs => ?_); subst hjs) | (refine CallV.mk _ (hC _ _ _ (PCw.of hG)) (fun js hjs => ?_); subst hjs) | (refine CallV.mk _ (hC _ _ _ (PCw.of hWW)) (fun js hjs => ?_); subst hjs) | (refine CallV.mk _ (hC _ _ _ (PCw.of hsm)) (fun js hjs => ?_); subst hjs)); (try (conv => whnf))))
       exact hfin _ (ILes.refl _)
     · refine PC.of_va (T := tb0) eqs_ok tb_ok rfl mixed Try.func3 rfl rfl (Nat.le_of_ble_eq_true rfl) ?_; intro Γ C WK LP fin h0 hW hC hB hR hLP hfin
       (try (conv => whnf)); (repeat ((first | refine qT ?_ | refine qF ?_ | refine qO ?_ | (with_reducible intro z hz); (first | (replace hz := hz (by omega); subst hz) | subst hz) | (refine CallV.mk _ (hC _ _ _ (PCw.of hA)) (fun js hjs => ?_); subst hjs) | (refine CallV.mk _ (hC _ _ _ (PCw.of hF)) (fun js hjs => ?_); subst hjs) | (refine CallV.mk _ (hC _ _ _ (PCw.of hG)) (fun js hjs => ?_); subst hjs) | (refine CallV.mk _ (hC _ _ _ (PCw.of hSt)) (fun js hjs => ?_); subst hjs) | (refine CallV.mk _ (hC _ _ _ (PCw.of hHs)) (fun js hjs => ?_); subst hjs) | (refine CallV.mk _ (hC _ _ _ (PCw.of hG)) (fun js hjs => ?_); subst hjs) | (refine CallV.mk _ (hC _ _ _ (PCw.of hWW)) (fun js hjs => ?_); subst hjs) | (refine CallV.mk _ (hC _ _ _ (PCw.of hsm)) (fun js hjs => ?_); subst hjs)); (try (conv => whnf))))
       exact hfin _ (ILes.refl _)
   · rw [hrc] at hHs hno
     have hl2 : 256 < l.length := by simpa using hno
     rw [hte] at hF hG hHs hSt ⊢
     cases h
     · refine PC.of_va (T := tb0) eqs_ok tb_ok rfl mixed Try.func3 rfl rfl (Nat.le_of_ble_eq_true rfl) ?_; intro Γ C WK LP fin h0 hW hC hB hR hLP hfin
       (try (conv => whnf)); (repeat ((first | refine qT ?_ | refine qF ?_ | refine qO ?_ | (with_reducible intro z hz); (first | (replace hz := hz (by omega); subst hz) | subst hz) | (refine CallV.mk _ (hC _ _ _ (PCw.of hA)) (fun js hjs => ?_); subst hjs) | (refine CallV.mk _ (hC _ _ _ (PCw.of hF)) (fun js hjs => ?_); subst hjs) | (refine CallV.mk _ (hC _ _ _ (PCw.of hG)) (fun js hjs => ?_); subst hjs) | (refine CallV.mk _ (hC _ _ _ (PCw.of hSt)) (fun js hjs => ?_); subst hjs) | (refine CallV.mk _ (hC _ _ _ (PCw.of hHs)) (fun js hjs => ?_); subst hjs) | (refine CallV.mk _ (hC _ _ _ (PCw.of hG)) (fun js hjs => ?_); subst hjs) | (refine CallV.mk _ (hC _ _ _ (PCw.of hWW)) (fun js hjs => ?_); subst hjs) | (refine CallV.mk _ (hC _ _ _ (PCw.of hsm)) (fun js hjs => ?_); subst hjs)); (try (conv => whnf))))
       exact hfin _ (ILes.refl _)
     · refine PC.of_va (T := tb0) eqs_ok tb_ok rfl mixed Try.func3 rfl rfl (Nat.le_of_ble_eq_true rfl) ?_; intro Γ C WK LP fin h0 hW hC hB hR hLP hfin
       (try (conv => whnf)); (repeat ((first | refine qT ?_ | refine qF ?_ | refine qO ?_ | (with_reducible intro z hz); (first | (replace hz := hz (by omega); subst hz) | subst hz) | (refine CallV.mk _ (hC _ _ _ (PCw.of hA)) (fun js hjs => ?_); subst hjs) | (refine CallV.mk _ (hC _ _ _ (PCw.of hF)) (fun js hjs => ?_); subst hjs) | (refine CallV.mk _ (hC _ _ _ (PCw.of hG)) (fun js hjs => ?_); subst hjs) | (refine CallV.mk _ (hC _ _ _ (PCw.of hSt)) (fun js hjs => ?_); subst hjs) | (refine CallV.mk _ (hC _ _ _ (PCw.of hHs)) (fun js hjs => ?_); subst hjs) | (refine CallV.mk _ (hC _ _ _ (PCw.of hG)) (fun js hjs => ?_); subst hjs) | (refine CallV.mk _ (hC _ _ _ (PCw.of hWW)) (fun js hjs => ?_); subst hjs) | (refine CallV.mk _ (hC _ _ _ (PCw.of hsm)) (fun js hjs => ?_); subst hjs)); (try (conv => whnf))))
       exact hfin _ (ILes.refl _)
 rw [Bool.not_eq_false, Bool.and_eq_true, decide_eq_true_eq] at hno
 obtain ⟨hrc, hl2⟩ := hno
 obtain ⟨a, b, x, y, rfl, rfl, hv, hx, hy⟩ := has_at hrc
 have hx60 := (hsb x (all_kid (List.mem_of_getElem? hx) x (all_self x))).1
 have hSt := set_yes_pc t hsb.k hsb (by omega) a b x y hx hy hrc l hl2
 have hRs := rset_pc t a b x y hx hy (hsb t (all_self t)).1 hx60 l hl2
 have hsb2 := put_smb hx hy hl2 hsb
 have hsm := same9_pc _ (putK t a (putK x b (putW y l))) (Nat.le_refl _) hsb2
 have hG2 := get_pk (putK t a (putK x b (putW y l))) hsb2.k (a : Int) (b : Int)
 rw [get_put hx hy l hv hrc, has_put hx hy l hv, hrc] at hG2
 have hG3 := get_pk (putK t a (putK x b (putW y l))) hsb2.k i k
 rw [has_put hx hy l hv] at hG3
 have hWl := words_pc l l (by omega)
 rw [decide_eq_true rfl] at hWl
 have hot := fun h : ¬ (i = (a : Int) ∧ k = (b : Int)) => get_other hx hy l hv h
 rw [hrc] at hHs
 generalize putK t a (putK x b (putW y l)) = u at hSt hRs hsm hG2 hG3 hot
 have hue := uv_eq u
 rw [hue] at hSt hRs hsm hG2 hG3
 by_cases hik : i = (a : Int) ∧ k = (b : Int)
 · obtain ⟨rfl, rfl⟩ := hik
   rw [hrc] at hG
   clear hG3 hot
   generalize getW t (a : Int) (b : Int) = w at hG hWW
   rw [hte] at hF hG hHs hSt hRs ⊢
   refine PC.of_va (T := tb0) eqs_ok tb_ok rfl mixed Try.func3 rfl rfl (Nat.le_of_ble_eq_true rfl) ?_; intro Γ C WK LP fin h0 hW hC hB hR hLP hfin
   (try (conv => whnf)); (repeat ((first | refine qT ?_ | refine qF ?_ | refine qO ?_ | (with_reducible intro z hz); (first | (replace hz := hz (by omega); subst hz) | subst hz) | (refine CallV.mk _ (hC _ _ _ (PCw.of hA)) (fun js hjs => ?_); subst hjs) | (refine CallV.mk _ (hC _ _ _ (PCw.of hF)) (fun js hjs => ?_); subst hjs) | (refine CallV.mk _ (hC _ _ _ (PCw.of hG)) (fun js hjs => ?_); subst hjs) | (refine CallV.mk _ (hC _ _ _ (PCw.of hSt)) (fun js hjs => ?_); subst hjs) | (refine CallV.mk _ (hC _ _ _ (PCw.of hHs)) (fun js hjs => ?_); subst hjs) | (refine CallV.mk _ (hC _ _ _ (PCw.of hG)) (fun js hjs => ?_); subst hjs) | (refine CallV.mk _ (hC _ _ _ (PCw.of hWW)) (fun js hjs => ?_); subst hjs) | (refine CallV.mk _ (hC _ _ _ (PCw.of hG2)) (fun js hjs => ?_); subst hjs) | (refine CallV.mk _ (hC _ _ _ (PCw.of hG2)) (fun js hjs => ?_); subst hjs) | (refine CallV.mk _ (hC _ _ _ (PCw.of hRs)) (fun js hjs => ?_); subst hjs) | (refine CallV.mk _ (hC _ _ _ (PCw.of hsm)) (fun js hjs => ?_); subst hjs) | (refine CallV.mk _ (hC _ _ _ (PCw.of hWl)) (fun js hjs => ?_); subst hjs)); (try (conv => whnf))))
   exact hfin _ (ILes.refl _)
 have hot := hot hik
 rw [hot] at hG3
 generalize getW t i k = w at hG hWW hG3
 generalize hasB t i k = h at hG hG3
 by_cases hia : i = (a : Int)
 · have hkb : k ≠ (b : Int) := fun h => hik ⟨hia, h⟩
   rw [hte] at hF hG hHs hSt hRs ⊢
   cases h
   · refine PC.of_va (T := tb0) eqs_ok tb_ok rfl mixed Try.func3 rfl rfl (Nat.le_of_ble_eq_true rfl) ?_; intro Γ C WK LP fin h0 hW hC hB hR hLP hfin
     (try (conv => whnf)); (repeat ((first | refine qT ?_ | refine qF ?_ | refine qO ?_ | (with_reducible intro z hz); (first | (replace hz := hz (by omega); subst hz) | subst hz) | (refine CallV.mk _ (hC _ _ _ (PCw.of hA)) (fun js hjs => ?_); subst hjs) | (refine CallV.mk _ (hC _ _ _ (PCw.of hF)) (fun js hjs => ?_); subst hjs) | (refine CallV.mk _ (hC _ _ _ (PCw.of hG)) (fun js hjs => ?_); subst hjs) | (refine CallV.mk _ (hC _ _ _ (PCw.of hSt)) (fun js hjs => ?_); subst hjs) | (refine CallV.mk _ (hC _ _ _ (PCw.of hHs)) (fun js hjs => ?_); subst hjs) | (refine CallV.mk _ (hC _ _ _ (PCw.of hG)) (fun js hjs => ?_); subst hjs) | (refine CallV.mk _ (hC _ _ _ (PCw.of hWW)) (fun js hjs => ?_); subst hjs) | (refine CallV.mk _ (hC _ _ _ (PCw.of hG2)) (fun js hjs => ?_); subst hjs) | (refine CallV.mk _ (hC _ _ _ (PCw.of hG3)) (fun js hjs => ?_); subst hjs) | (refine CallV.mk _ (hC _ _ _ (PCw.of hRs)) (fun js hjs => ?_); subst hjs) | (refine CallV.mk _ (hC _ _ _ (PCw.of hsm)) (fun js hjs => ?_); subst hjs) | (refine CallV.mk _ (hC _ _ _ (PCw.of hWl)) (fun js hjs => ?_); subst hjs) | (refine CallV.mk _ (hC _ _ _ (PCw.of hWW)) (fun js hjs => ?_); subst hjs)); (try (conv => whnf))))
     exact hfin _ (ILes.refl _)
   · refine PC.of_va (T := tb0) eqs_ok tb_ok rfl mixed Try.func3 rfl rfl (Nat.le_of_ble_eq_true rfl) ?_; intro Γ C WK LP fin h0 hW hC hB hR hLP hfin
     (try (conv => whnf)); (repeat ((first | refine qT ?_ | refine qF ?_ | refine qO ?_ | (with_reducible intro z hz); (first | (replace hz := hz (by omega); subst hz) | subst hz) | (refine CallV.mk _ (hC _ _ _ (PCw.of hA)) (fun js hjs => ?_); subst hjs) | (refine CallV.mk _ (hC _ _ _ (PCw.of hF)) (fun js hjs => ?_); subst hjs) | (refine CallV.mk _ (hC _ _ _ (PCw.of hG)) (fun js hjs => ?_); subst hjs) | (refine CallV.mk _ (hC _ _ _ (PCw.of hSt)) (fun js hjs => ?_); subst hjs) | (refine CallV.mk _ (hC _ _ _ (PCw.of hHs)) (fun js hjs => ?_); subst hjs) | (refine CallV.mk _ (hC _ _ _ (PCw.of hG)) (fun js hjs => ?_); subst hjs) | (refine CallV.mk _ (hC _ _ _ (PCw.of hWW)) (fun js hjs => ?_); subst hjs) | (refine CallV.mk _ (hC _ _ _ (PCw.of hG2)) (fun js hjs => ?_); subst hjs) | (refine CallV.mk _ (hC _ _ _ (PCw.of hG3)) (fun js hjs => ?_); subst hjs) | (refine CallV.mk _ (hC _ _ _ (PCw.of hRs)) (fun js hjs => ?_); subst hjs) | (refine CallV.mk _ (hC _ _ _ (PCw.of hsm)) (fun js hjs => ?_); subst hjs) | (refine CallV.mk _ (hC _ _ _ (PCw.of hWl)) (fun js hjs => ?_); subst hjs) | (refine CallV.mk _ (hC _ _ _ (PCw.of hWW)) (fun js hjs => ?_); subst hjs)); (try (conv => whnf))))
     exact hfin _ (ILes.refl _)
 · skip
   rw [hte] at hF hG hHs hSt hRs ⊢
   cases h
   · refine PC.of_va (T := tb0) eqs_ok tb_ok rfl mixed Try.func3 rfl rfl (Nat.le_of_ble_eq_true rfl) ?_; intro Γ C WK LP fin h0 hW hC hB hR hLP hfin
     (try (conv => whnf)); (repeat ((first | refine qT ?_ | refine qF ?_ | refine qO ?_ | (with_reducible intro z hz); (first | (replace hz := hz (by omega); subst hz) | subst hz) | (refine CallV.mk _ (hC _ _ _ (PCw.of hA)) (fun js hjs => ?_); subst hjs) | (refine CallV.mk _ (hC _ _ _ (PCw.of hF)) (fun js hjs => ?_); subst hjs) | (refine CallV.mk _ (hC _ _ _ (PCw.of hG)) (fun js hjs => ?_); subst hjs) | (refine CallV.mk _ (hC _ _ _ (PCw.of hSt)) (fun js hjs => ?_); subst hjs) | (refine CallV.mk _ (hC _ _ _ (PCw.of hHs)) (fun js hjs => ?_); subst hjs) | (refine CallV.mk _ (hC _ _ _ (PCw.of hG)) (fun js hjs => ?_); subst hjs) | (refine CallV.mk _ (hC _ _ _ (PCw.of hWW)) (fun js hjs => ?_); subst hjs) | (refine CallV.mk _ (hC _ _ _ (PCw.of hG2)) (fun js hjs => ?_); subst hjs) | (refine CallV.mk _ (hC _ _ _ (PCw.of hG3)) (fun js hjs => ?_); subst hjs) | (refine CallV.mk _ (hC _ _ _ (PCw.of hRs)) (fun js hjs => ?_); subst hjs) | (refine CallV.mk _ (hC _ _ _ (PCw.of hsm)) (fun js hjs => ?_); subst hjs) | (refine CallV.mk _ (hC _ _ _ (PCw.of hWl)) (fun js hjs => ?_); subst hjs) | (refine CallV.mk _ (hC _ _ _ (PCw.of hWW)) (fun js hjs => ?_); subst hjs)); (try (conv => whnf))))
     exact hfin _ (ILes.refl _)
   · refine PC.of_va (T := tb0) eqs_ok tb_ok rfl mixed Try.func3 rfl rfl (Nat.le_of_ble_eq_true rfl) ?_; intro Γ C WK LP fin h0 hW hC hB hR hLP hfin
     (try (conv => whnf)); (repeat ((first | refine qT ?_ | refine qF ?_ | refine qO ?_ | (with_reducible intro z hz); (first | (replace hz := hz (by omega); subst hz) | subst hz) | (refine CallV.mk _ (hC _ _ _ (PCw.of hA)) (fun js hjs => ?_); subst hjs) | (refine CallV.mk _ (hC _ _ _ (PCw.of hF)) (fun js hjs => ?_); subst hjs) | (refine CallV.mk _ (hC _ _ _ (PCw.of hG)) (fun js hjs => ?_); subst hjs) | (refine CallV.mk _ (hC _ _ _ (PCw.of hSt)) (fun js hjs => ?_); subst hjs) | (refine CallV.mk _ (hC _ _ _ (PCw.of hHs)) (fun js hjs => ?_); subst hjs) | (refine CallV.mk _ (hC _ _ _ (PCw.of hG)) (fun js hjs => ?_); subst hjs) | (refine CallV.mk _ (hC _ _ _ (PCw.of hWW)) (fun js hjs => ?_); subst hjs) | (refine CallV.mk _ (hC _ _ _ (PCw.of hG2)) (fun js hjs => ?_); subst hjs) | (refine CallV.mk _ (hC _ _ _ (PCw.of hG3)) (fun js hjs => ?_); subst hjs) | (refine CallV.mk _ (hC _ _ _ (PCw.of hRs)) (fun js hjs => ?_); subst hjs) | (refine CallV.mk _ (hC _ _ _ (PCw.of hsm)) (fun js hjs => ?_); subst hjs) | (refine CallV.mk _ (hC _ _ _ (PCw.of hWl)) (fun js hjs => ?_); subst hjs) | (refine CallV.mk _ (hC _ _ _ (PCw.of hWW)) (fun js hjs => ?_); subst hjs)); (try (conv => whnf))))
     exact hfin _ (ILes.refl _)
end Go.Proofs.Ytdkalehijilchaa.Pb
