/-
  Comparisons of words, steps, strings, trees and instructions: they tell whether two are one.
-/
import Derived.Test.YtglkpmhamekpmaaGreatGd
namespace Go.Proofs.YtglkpmhamekpmaaGreat.Po
open Go Go.Pv Go.RowKit
set_option linter.unusedSimpArgs false
open Lab Lcs Go.Proofs.YtglkpmhamekpmaaGreat Go.Proofs.YtglkpmhamekpmaaGreat.Pu
set_option maxRecDepth 10000
set_option maxHeartbeats 64000000
noncomputable instance : DecidableEq It := fun a b => Classical.propDecidable (a = b)
noncomputable instance : DecidableEq Ut := fun a b => Classical.propDecidable (a = b)
noncomputable instance : DecidableEq Ei := fun a b => Classical.propDecidable (a = b)
noncomputable instance : DecidableEq Stp := fun a b => Classical.propDecidable (a = b)
def eqsQ : TypeId → Option (List CK) := fun t => if t = 36 then some [.int .i64, .int .i64, .int .i64] else if t = 166 then some [.str, .int .i64, .int .i64, .int .i64] else eqs t
theorem eqsQ_ok : EqsOK Tryz.prog eqsQ := fun t ks h => by
 unfold eqsQ at h
 split at h
 · rename_i e; subst e; exact eqsP_ok _ ks (by rw [← h]; kernel_rfl)
 · split at h
   · rename_i e; subst e; exact eqsP_ok _ ks (by rw [← h]; kernel_rfl)
   · exact eqs_ok t ks h
noncomputable def tbq : Tb := ⟨Pv.look tdl, eqsQ, fun _ => none, fun _ => [], fun _ => false, fun _ => 0⟩
theorem tbq_ok : ∀ t d, tbq.td t = some d → tdOf Tryz.prog t = some d := Pv.look_ok tdl_ok
theorem id_eqC (a b : Trip) : eqC [.int .i64 a.x, .int .i64 a.y, .int .i64 a.z] [.int .i64 b.x, .int .i64 b.y, .int .i64 b.z] = decide (a = b) := by
 cases a; cases b
 rw [Bool.eq_iff_iff]
 simp [eqC]
theorem wd_eqC (a b : Wd) : eqC [.str a.text, .int .i64 a.mark.x, .int .i64 a.mark.y, .int .i64 a.mark.z] [.str b.text, .int .i64 b.mark.x, .int .i64 b.mark.y, .int .i64 b.mark.z] = decide (a = b) := by
 obtain ⟨t, ⟨x, y, z⟩⟩ := a
 obtain ⟨t', ⟨x', y', z'⟩⟩ := b
 rw [Bool.eq_iff_iff]
 simp [eqC]
theorem stp_eqC (a b : Stp) : eqC [.int .i64 a.kind, .str a.label] [.int .i64 b.kind, .str b.label] = decide (a = b) := by
 cases a; cases b
 rw [Bool.eq_iff_iff]
 simp [eqC]
theorem start_eqC (a b c d : Int) (s t : Str) : eqC [.int .i64 a, .int .i64 b, .str s] [.int .i64 c, .int .i64 d, .str t] = decide (a = c ∧ b = d ∧ s = t) := by
 rw [Bool.eq_iff_iff]
 simp [eqC]
theorem take_ne {α : Type} {a b : List α} {k : Nat} {x y : α} (hx : a[k]? = some x) (hy : b[k]? = some y) (h : x ≠ y) : a ≠ b := fun e => h (by rw [e, hy] at hx; injection hx with hx; exact hx.symm)
theorem wdv_eq (x : Wd) : wdv x = .agg [.str x.text, .int .i64 x.mark.x, .int .i64 x.mark.y, .int .i64 x.mark.z] := by first | rfl | (cases x; rfl)
theorem same4_pc (a b : List Str) (_ : a.length ≤ 1000000000) (hb : b.length ≤ 1000000000) : PC Tryz.prog env0 32 [.sl 1 (a.map IV.str), .sl 1 (b.map IV.str)] [.bool (decide (a = b))] := by
 have hal : (a.map IV.str).length = a.length := List.length_map _
 have hbl : (b.map IV.str).length = b.length := List.length_map _
 by_cases hl : a.length = b.length
 rotate_left
 · rw [decide_eq_false (fun e => hl (by rw [e]))]
   refine PC.of_va (T := tbq) eqsQ_ok tbq_ok rfl mixed Tryz.func32 rfl rfl (Nat.le_of_ble_eq_true rfl) ?_; intro Γ C WK LP fin h0 hW hC hB hR hLP hfin
   (try (conv => whnf)); (repeat ((first | refine qT ?_ | refine qF ?_ | refine qO ?_ | (with_reducible intro z hz); (first | (replace hz := hz (by omega); subst hz) | subst hz)); (try (conv => whnf))))
   exact hfin _ (ILes.refl _)
 refine PC.of_va (T := tbq) eqsQ_ok tbq_ok rfl mixed Tryz.func32 rfl rfl (Nat.le_of_ble_eq_true rfl) ?_; intro Γ C WK LP fin h0 hW hC hB hR hLP hfin
 (try (conv => whnf)); (repeat ((first | refine qT ?_ | refine qF ?_ | refine qO ?_ | (with_reducible intro z hz); (first | (replace hz := hz (by omega); subst hz) | subst hz)); (try (conv => whnf))))
 refine hLP _ _ _ Nat (fun k => ⟨[(0, .imm (.sl 1 (a.map IV.str))), (1, .imm (.sl 1 (b.map IV.str))), (5, .imm (.int .i64 (k : Nat)))], []⟩) (fun k => k ≤ a.length ∧ a.take k = b.take k) (fun k => a.length - k) 0 ⟨Nat.zero_le _, by simp⟩ (qSL 0 rfl rfl (hE := by (repeat ((conv => whnf); first | exact trivial | refine And.intro (by first | exact WkOne.any | exact WkOne.eq (by with_reducible rfl) rfl | exact WkOne.eq (congrArg (fun z => PV.imm (IV.int IntKind.i64 z)) (by first | omega | (simp [hal]; done) | (simp [hal]; omega))) rfl | exact WkOne.eq (by first | (simp [hal]; done) | fail) rfl | exact WkOne.eq rfl rfl | exact WkOne.le rfl (ILe.nil _)) ?_)))) ?_
 rintro k ⟨hk, he⟩
 have hho := Nat.lt_or_ge k a.length
 cases hho with
 | inl hlt =>
   obtain ⟨x, hx⟩ : ∃ x, a[k]? = some x := ⟨a[k], List.getElem?_eq_getElem hlt⟩
   obtain ⟨y, hy⟩ : ∃ y, b[k]? = some y := ⟨b[k], List.getElem?_eq_getElem (by omega)⟩
   by_cases hxy : x = y
   · (try (conv => whnf)); (repeat ((first | refine qT ?_ | refine qF ?_ | refine qO ?_ | (with_reducible intro z hz); (first | (replace hz := hz (by omega); subst hz) | subst hz)); (try (conv => whnf))))
     refine Idx.mk k (IV.str x) _ rfl (by simp [hx]) rfl ?_
     (try (conv => whnf)); (repeat ((first | refine qT ?_ | refine qF ?_ | refine qO ?_ | (with_reducible intro z hz); (first | (replace hz := hz (by omega); subst hz) | subst hz)); (try (conv => whnf))))
     refine Idx.mk k (IV.str y) _ rfl (by simp [hy]) rfl ?_
     (try (conv => whnf)); (repeat ((first | refine qT ?_ | refine qF ?_ | refine qO ?_ | (with_reducible intro z hz); (first | (replace hz := hz (by omega); subst hz) | subst hz)); (try (conv => whnf))))
     exact ⟨k + 1, ⟨by omega, by rw [take_at hx, take_at hy, he, hxy]⟩, by dsimp only; omega, (qSL 0 rfl rfl)⟩
   · rw [decide_eq_false (take_ne hx hy hxy)] at hfin
     (try (conv => whnf)); (repeat ((first | refine qT ?_ | refine qF ?_ | refine qO ?_ | (with_reducible intro z hz); (first | (replace hz := hz (by omega); subst hz) | subst hz)); (try (conv => whnf))))
     refine Idx.mk k (IV.str x) _ rfl (by simp [hx]) rfl ?_
     (try (conv => whnf)); (repeat ((first | refine qT ?_ | refine qF ?_ | refine qO ?_ | (with_reducible intro z hz); (first | (replace hz := hz (by omega); subst hz) | subst hz)); (try (conv => whnf))))
     refine Idx.mk k (IV.str y) _ rfl (by simp [hy]) rfl ?_
     (try (conv => whnf)); (repeat ((first | refine qT ?_ | refine qF ?_ | refine qO ?_ | (with_reducible intro z hz); (first | (replace hz := hz (by omega); subst hz) | subst hz)); (try (conv => whnf))))
     exact hfin _ (ILes.refl _)
 | inr hge =>
   obtain rfl : k = a.length := by omega
   rw [List.take_length, hl, List.take_length] at he
   rw [decide_eq_true he] at hfin
   (try (conv => whnf)); (repeat ((first | refine qT ?_ | refine qF ?_ | refine qO ?_ | (with_reducible intro z hz); (first | (replace hz := hz (by omega); subst hz) | subst hz)); (try (conv => whnf))))
   exact hfin _ (ILes.refl _)
theorem same7_pc (a b : List Stp) (_ : a.length ≤ 1000000000) (hb : b.length ≤ 1000000000) : PC Tryz.prog env0 52 [.sl 2 (a.map spv), .sl 2 (b.map spv)] [.bool (decide (a = b))] := by
 have hal : (a.map spv).length = a.length := List.length_map _
 have hbl : (b.map spv).length = b.length := List.length_map _
 by_cases hl : a.length = b.length
 rotate_left
 · rw [decide_eq_false (fun e => hl (by rw [e]))]
   refine PC.of_va (T := tbq) eqsQ_ok tbq_ok rfl mixed Tryz.func52 rfl rfl (Nat.le_of_ble_eq_true rfl) ?_; intro Γ C WK LP fin h0 hW hC hB hR hLP hfin
   (try (conv => whnf)); (repeat ((first | refine qT ?_ | refine qF ?_ | refine qO ?_ | (with_reducible intro z hz); (first | (replace hz := hz (by omega); subst hz) | subst hz)); (try (conv => whnf))))
   exact hfin _ (ILes.refl _)
 refine PC.of_va (T := tbq) eqsQ_ok tbq_ok rfl mixed Tryz.func52 rfl rfl (Nat.le_of_ble_eq_true rfl) ?_; intro Γ C WK LP fin h0 hW hC hB hR hLP hfin
 (try (conv => whnf)); (repeat ((first | refine qT ?_ | refine qF ?_ | refine qO ?_ | (with_reducible intro z hz); (first | (replace hz := hz (by omega); subst hz) | subst hz)); (try (conv => whnf))))
 refine hLP _ _ _ Nat (fun k => ⟨[(0, .imm (.sl 2 (a.map spv))), (1, .imm (.sl 2 (b.map spv))), (5, .imm (.int .i64 (k : Nat)))], []⟩) (fun k => k ≤ a.length ∧ a.take k = b.take k) (fun k => a.length - k) 0 ⟨Nat.zero_le _, by simp⟩ (qSL 0 rfl rfl (hE := by (repeat ((conv => whnf); first | exact trivial | refine And.intro (by first | exact WkOne.any | exact WkOne.eq (by with_reducible rfl) rfl | exact WkOne.eq (congrArg (fun z => PV.imm (IV.int IntKind.i64 z)) (by first | omega | (simp [hal]; done) | (simp [hal]; omega))) rfl | exact WkOne.eq (by first | (simp [hal]; done) | fail) rfl | exact WkOne.eq rfl rfl | exact WkOne.le rfl (ILe.nil _)) ?_)))) ?_
 rintro k ⟨hk, he⟩
 have hho := Nat.lt_or_ge k a.length
 cases hho with
 | inl hlt =>
   obtain ⟨x, hx⟩ : ∃ x, a[k]? = some x := ⟨a[k], List.getElem?_eq_getElem hlt⟩
   obtain ⟨y, hy⟩ : ∃ y, b[k]? = some y := ⟨b[k], List.getElem?_eq_getElem (by omega)⟩
   have hi := stp_eqC x y
   by_cases hxy : x = y
   · rw [decide_eq_true hxy] at hi
     (try (conv => whnf)); (repeat ((first | refine qT ?_ | refine qF ?_ | refine qO ?_ | (with_reducible intro z hz); (first | (replace hz := hz (by omega); subst hz) | subst hz)); (try (conv => whnf))))
     refine Idx.mk k (spv x) _ rfl (by simp [hx]) rfl ?_
     (try (conv => whnf)); (repeat ((first | refine qT ?_ | refine qF ?_ | refine qO ?_ | (with_reducible intro z hz); (first | (replace hz := hz (by omega); subst hz) | subst hz)); (try (conv => whnf))))
     refine Idx.mk k (spv y) _ rfl (by simp [hy]) rfl ?_
     (try (conv => whnf)); (repeat ((first | refine qT ?_ | refine qF ?_ | refine qO ?_ | (with_reducible intro z hz); (first | (replace hz := hz (by omega); subst hz) | subst hz)); (try (conv => whnf))))
     exact ⟨k + 1, ⟨by omega, by rw [take_at hx, take_at hy, he, hxy]⟩, by dsimp only; omega, (qSL 0 rfl rfl)⟩
   · rw [decide_eq_false hxy] at hi
     have hi := ne_true_of_eq_false hi
     rw [decide_eq_false (take_ne hx hy hxy)] at hfin
     (try (conv => whnf)); (repeat ((first | refine qT ?_ | refine qF ?_ | refine qO ?_ | (with_reducible intro z hz); (first | (replace hz := hz (by omega); subst hz) | subst hz)); (try (conv => whnf))))
     refine Idx.mk k (spv x) _ rfl (by simp [hx]) rfl ?_
     (try (conv => whnf)); (repeat ((first | refine qT ?_ | refine qF ?_ | refine qO ?_ | (with_reducible intro z hz); (first | (replace hz := hz (by omega); subst hz) | subst hz)); (try (conv => whnf))))
     refine Idx.mk k (spv y) _ rfl (by simp [hy]) rfl ?_
     (try (conv => whnf)); (repeat ((first | refine qT ?_ | refine qF ?_ | refine qO ?_ | (with_reducible intro z hz); (first | (replace hz := hz (by omega); subst hz) | subst hz)); (try (conv => whnf))))
     exact hfin _ (ILes.refl _)
 | inr hge =>
   obtain rfl : k = a.length := by omega
   rw [List.take_length, hl, List.take_length] at he
   rw [decide_eq_true he] at hfin
   (try (conv => whnf)); (repeat ((first | refine qT ?_ | refine qF ?_ | refine qO ?_ | (with_reducible intro z hz); (first | (replace hz := hz (by omega); subst hz) | subst hz)); (try (conv => whnf))))
   exact hfin _ (ILes.refl _)
theorem rows6_pc (a b : List Wd) (_ : a.length ≤ 1000000000) (hb : b.length ≤ 1000000000) : PC Tryz.prog env0 88 [.sl 4 (a.map wdv), .sl 4 (b.map wdv)] [.bool (decide (a = b))] := by
 have hal : (a.map wdv).length = a.length := List.length_map _
 have hbl : (b.map wdv).length = b.length := List.length_map _
 by_cases hl : a.length = b.length
 rotate_left
 · rw [decide_eq_false (fun e => hl (by rw [e]))]
   refine PC.of_va (T := tbq) eqsQ_ok tbq_ok rfl mixed Tryz.func88 rfl rfl (Nat.le_of_ble_eq_true rfl) ?_; intro Γ C WK LP fin h0 hW hC hB hR hLP hfin
   (try (conv => whnf)); (repeat ((first | refine qT ?_ | refine qF ?_ | refine qO ?_ | (with_reducible intro z hz); (first | (replace hz := hz (by omega); subst hz) | subst hz)); (try (conv => whnf))))
   exact hfin _ (ILes.refl _)
 refine PC.of_va (T := tbq) eqsQ_ok tbq_ok rfl mixed Tryz.func88 rfl rfl (Nat.le_of_ble_eq_true rfl) ?_; intro Γ C WK LP fin h0 hW hC hB hR hLP hfin
 (try (conv => whnf)); (repeat ((first | refine qT ?_ | refine qF ?_ | refine qO ?_ | (with_reducible intro z hz); (first | (replace hz := hz (by omega); subst hz) | subst hz)); (try (conv => whnf))))
 refine hLP _ _ _ Nat (fun k => ⟨[(0, .imm (.sl 4 (a.map wdv))), (1, .imm (.sl 4 (b.map wdv))), (5, .imm (.int .i64 (k : Nat)))], []⟩) (fun k => k ≤ a.length ∧ a.take k = b.take k) (fun k => a.length - k) 0 ⟨Nat.zero_le _, by simp⟩ (qSL 0 rfl rfl (hE := by (repeat ((conv => whnf); first | exact trivial | refine And.intro (by first | exact WkOne.any | exact WkOne.eq (by with_reducible rfl) rfl | exact WkOne.eq (congrArg (fun z => PV.imm (IV.int IntKind.i64 z)) (by first | omega | (simp [hal]; done) | (simp [hal]; omega))) rfl | exact WkOne.eq (by first | (simp [hal]; done) | fail) rfl | exact WkOne.eq rfl rfl | exact WkOne.le rfl (ILe.nil _)) ?_)))) ?_
 rintro k ⟨hk, he⟩
 have hho := Nat.lt_or_ge k a.length
 cases hho with
 | inl hlt =>
   obtain ⟨x, hx⟩ : ∃ x, a[k]? = some x := ⟨a[k], List.getElem?_eq_getElem hlt⟩
   obtain ⟨y, hy⟩ : ∃ y, b[k]? = some y := ⟨b[k], List.getElem?_eq_getElem (by omega)⟩
   have hi := wd_eqC x y
   by_cases hxy : x = y
   · rw [decide_eq_true hxy] at hi
     (try (conv => whnf)); (repeat ((first | refine qT ?_ | refine qF ?_ | refine qO ?_ | (with_reducible intro z hz); (first | (replace hz := hz (by omega); subst hz) | subst hz)); (try (conv => whnf))))
     refine Idx.mk k (wdv x) _ rfl (by simp [hx]) (by rw [wdv_eq x]) ?_
     (try (conv => whnf)); (repeat ((first | refine qT ?_ | refine qF ?_ | refine qO ?_ | (with_reducible intro z hz); (first | (replace hz := hz (by omega); subst hz) | subst hz)); (try (conv => whnf))))
     refine Idx.mk k (wdv y) _ rfl (by simp [hy]) (by rw [wdv_eq y]) ?_
     (try (conv => whnf)); (repeat ((first | refine qT ?_ | refine qF ?_ | refine qO ?_ | (with_reducible intro z hz); (first | (replace hz := hz (by omega); subst hz) | subst hz)); (try (conv => whnf))))
     exact ⟨k + 1, ⟨by omega, by rw [take_at hx, take_at hy, he, hxy]⟩, by dsimp only; omega, (qSL 0 rfl rfl)⟩
   · rw [decide_eq_false hxy] at hi
     have hi := ne_true_of_eq_false hi
     rw [decide_eq_false (take_ne hx hy hxy)] at hfin
     (try (conv => whnf)); (repeat ((first | refine qT ?_ | refine qF ?_ | refine qO ?_ | (with_reducible intro z hz); (first | (replace hz := hz (by omega); subst hz) | subst hz)); (try (conv => whnf))))
     refine Idx.mk k (wdv x) _ rfl (by simp [hx]) (by rw [wdv_eq x]) ?_
     (try (conv => whnf)); (repeat ((first | refine qT ?_ | refine qF ?_ | refine qO ?_ | (with_reducible intro z hz); (first | (replace hz := hz (by omega); subst hz) | subst hz)); (try (conv => whnf))))
     refine Idx.mk k (wdv y) _ rfl (by simp [hy]) (by rw [wdv_eq y]) ?_
     (try (conv => whnf)); (repeat ((first | refine qT ?_ | refine qF ?_ | refine qO ?_ | (with_reducible intro z hz); (first | (replace hz := hz (by omega); subst hz) | subst hz)); (try (conv => whnf))))
     exact hfin _ (ILes.refl _)
 | inr hge =>
   obtain rfl : k = a.length := by omega
   rw [List.take_length, hl, List.take_length] at he
   rw [decide_eq_true he] at hfin
   (try (conv => whnf)); (repeat ((first | refine qT ?_ | refine qF ?_ | refine qO ?_ | (with_reducible intro z hz); (first | (replace hz := hz (by omega); subst hz) | subst hz)); (try (conv => whnf))))
   exact hfin _ (ILes.refl _)
theorem CpU.len {u : Ut} (h : CpU u) : u.head.length ≤ 1000000000 ∧ u.words.length ≤ 1000000000 ∧ u.kids.length ≤ 1000000000 := by cases h; assumption
theorem CpU.kids {u : Ut} (h : CpU u) : ∀ x ∈ u.kids, CpU x := by cases h; assumption
theorem Ut.ext' {u v : Ut} (h1 : u.id = v.id) (h2 : u.kind = v.kind) (h3 : u.label = v.label) (h4 : u.head = v.head) (h5 : u.words = v.words) (h6 : u.kids = v.kids) : u = v := by
 cases u; cases v
 simp only [Ut.id, Ut.kind, Ut.label, Ut.head, Ut.words, Ut.kids] at *
 subst h1 h2 h3 h4 h5 h6
 rfl
theorem same6_pc (u : Ut) (hu : CpU u) : ∀ v : Ut, CpU v → PC Tryz.prog env0 53 [uv u, uv v] [.bool (decide (u = v))] := by
 induction hu with
 | mk u h hk ih =>
 obtain ⟨g1, g2, g3⟩ := h
 intro v hv
 obtain ⟨k1, k2, k3⟩ := hv.len
 have hi := id_eqC u.id v.id
 have hH := rows6_pc u.head v.head g1 k1
 have hW1 := rows6_pc u.words v.words g2 k2
 have hul : (u.kids.map uv).length = u.kids.length := List.length_map _
 have hvl : (v.kids.map uv).length = v.kids.length := List.length_map _
 rw [uv_eq u, uv_eq v]
 by_cases c1 : u.id = v.id
 rotate_left
 · rw [decide_eq_false (fun e => c1 (by rw [e]))]
   rw [decide_eq_false c1] at hi
   have hi := ne_true_of_eq_false hi
   refine PC.of_va (T := tbq) eqsQ_ok tbq_ok rfl mixed Tryz.func53 rfl rfl (Nat.le_of_ble_eq_true rfl) ?_; intro Γ C WK LP fin h0 hW hC hB hR hLP hfin
   (try (conv => whnf)); (repeat ((first | refine qT ?_ | refine qF ?_ | refine qO ?_ | (with_reducible intro z hz); (first | (replace hz := hz (by omega); subst hz) | subst hz)); (try (conv => whnf))))
   exact hfin _ (ILes.refl _)
 rw [decide_eq_true c1] at hi
 by_cases c2 : u.kind = v.kind
 rotate_left
 · rw [decide_eq_false (fun e => c2 (by rw [e]))]
   refine PC.of_va (T := tbq) eqsQ_ok tbq_ok rfl mixed Tryz.func53 rfl rfl (Nat.le_of_ble_eq_true rfl) ?_; intro Γ C WK LP fin h0 hW hC hB hR hLP hfin
   (try (conv => whnf)); (repeat ((first | refine qT ?_ | refine qF ?_ | refine qO ?_ | (with_reducible intro z hz); (first | (replace hz := hz (by omega); subst hz) | subst hz)); (try (conv => whnf))))
   exact hfin _ (ILes.refl _)
 by_cases c3 : u.label = v.label
 rotate_left
 · rw [decide_eq_false (fun e => c3 (by rw [e]))]
   refine PC.of_va (T := tbq) eqsQ_ok tbq_ok rfl mixed Tryz.func53 rfl rfl (Nat.le_of_ble_eq_true rfl) ?_; intro Γ C WK LP fin h0 hW hC hB hR hLP hfin
   (try (conv => whnf)); (repeat ((first | refine qT ?_ | refine qF ?_ | refine qO ?_ | (with_reducible intro z hz); (first | (replace hz := hz (by omega); subst hz) | subst hz)); (try (conv => whnf))))
   exact hfin _ (ILes.refl _)
 by_cases c4 : u.head = v.head
 rotate_left
 · rw [decide_eq_false (fun e => c4 (by rw [e]))]
   rw [decide_eq_false c4] at hH
   refine PC.of_va (T := tbq) eqsQ_ok tbq_ok rfl mixed Tryz.func53 rfl rfl (Nat.le_of_ble_eq_true rfl) ?_; intro Γ C WK LP fin h0 hW hC hB hR hLP hfin
   (try (conv => whnf)); (repeat ((first | refine qT ?_ | refine qF ?_ | refine qO ?_ | (with_reducible intro z hz); (first | (replace hz := hz (by omega); subst hz) | subst hz) | (refine CallV.mk _ (hC _ _ _ (PCw.of hH)) (fun js hjs => ?_); subst hjs)); (try (conv => whnf))))
   exact hfin _ (ILes.refl _)
 rw [decide_eq_true c4] at hH
 by_cases c5 : u.words = v.words
 rotate_left
 · rw [decide_eq_false (fun e => c5 (by rw [e]))]
   rw [decide_eq_false c5] at hW1
   refine PC.of_va (T := tbq) eqsQ_ok tbq_ok rfl mixed Tryz.func53 rfl rfl (Nat.le_of_ble_eq_true rfl) ?_; intro Γ C WK LP fin h0 hW hC hB hR hLP hfin
   (try (conv => whnf)); (repeat ((first | refine qT ?_ | refine qF ?_ | refine qO ?_ | (with_reducible intro z hz); (first | (replace hz := hz (by omega); subst hz) | subst hz) | (refine CallV.mk _ (hC _ _ _ (PCw.of hH)) (fun js hjs => ?_); subst hjs) | (refine CallV.mk _ (hC _ _ _ (PCw.of hW1)) (fun js hjs => ?_); subst hjs)); (try (conv => whnf))))
   exact hfin _ (ILes.refl _)
 rw [decide_eq_true c5] at hW1
 by_cases c6 : u.kids.length = v.kids.length
 rotate_left
 · rw [decide_eq_false (fun e => c6 (by rw [e]))]
   refine PC.of_va (T := tbq) eqsQ_ok tbq_ok rfl mixed Tryz.func53 rfl rfl (Nat.le_of_ble_eq_true rfl) ?_; intro Γ C WK LP fin h0 hW hC hB hR hLP hfin
   (try (conv => whnf)); (repeat ((first | refine qT ?_ | refine qF ?_ | refine qO ?_ | (with_reducible intro z hz); (first | (replace hz := hz (by omega); subst hz) | subst hz) | (refine CallV.mk _ (hC _ _ _ (PCw.of hH)) (fun js hjs => ?_); subst hjs) | (refine CallV.mk _ (hC _ _ _ (PCw.of hW1)) (fun js hjs => ?_); subst hjs)); (try (conv => whnf))))
   exact hfin _ (ILes.refl _)
 refine PC.of_va (T := tbq) eqsQ_ok tbq_ok rfl mixed Tryz.func53 rfl rfl (Nat.le_of_ble_eq_true rfl) ?_; intro Γ C WK LP fin h0 hW hC hB hR hLP hfin
 (try (conv => whnf)); (repeat ((first | refine qT ?_ | refine qF ?_ | refine qO ?_ | (with_reducible intro z hz); (first | (replace hz := hz (by omega); subst hz) | subst hz) | (refine CallV.mk _ (hC _ _ _ (PCw.of hH)) (fun js hjs => ?_); subst hjs) | (refine CallV.mk _ (hC _ _ _ (PCw.of hW1)) (fun js hjs => ?_); subst hjs)); (try (conv => whnf))))
 refine hLP _ _ _ Nat (fun k => ⟨[(2, .ptr 0 1 0), (3, .ptr 1 1 0), (5, .imm (.int .i64 (k : Nat)))], [.box 1 [.imm (.int .i64 u.id.x), .imm (.int .i64 u.id.y), .imm (.int .i64 u.id.z), .imm (.int .i64 u.kind), .imm (.str u.label), .imm (.sl 4 (u.head.map wdv)), .imm (.sl 4 (u.words.map wdv)), .imm (.sl 8 (u.kids.map uv))], .box 1 [.imm (.int .i64 v.id.x), .imm (.int .i64 v.id.y), .imm (.int .i64 v.id.z), .imm (.int .i64 v.kind), .imm (.str v.label), .imm (.sl 4 (v.head.map wdv)), .imm (.sl 4 (v.words.map wdv)), .imm (.sl 8 (v.kids.map uv))]]⟩) (fun k => k ≤ u.kids.length ∧ u.kids.take k = v.kids.take k) (fun k => u.kids.length - k) 0 ⟨Nat.zero_le _, by simp⟩ (qSL 2 rfl rfl) ?_
 rintro k ⟨hkk, he⟩
 have hho := Nat.lt_or_ge k u.kids.length
 cases hho with
 | inl hlt =>
   obtain ⟨x, hx⟩ : ∃ x, u.kids[k]? = some x := ⟨u.kids[k], List.getElem?_eq_getElem hlt⟩
   obtain ⟨y, hy⟩ : ∃ y, v.kids[k]? = some y := ⟨v.kids[k], List.getElem?_eq_getElem (by omega)⟩
   have hS := ih x (List.mem_of_getElem? hx) y (hv.kids y (List.mem_of_getElem? hy))
   rw [uv_eq x, uv_eq y] at hS
   by_cases hxy : x = y
   · rw [decide_eq_true hxy] at hS
     (try (conv => whnf)); (repeat ((first | refine qT ?_ | refine qF ?_ | refine qO ?_ | (with_reducible intro z hz); (first | (replace hz := hz (by omega); subst hz) | subst hz)); (try (conv => whnf))))
     refine Idx.mk k (uv x) _ rfl (by simp [hx]) (by rw [uv_eq x]) ?_
     (try (conv => whnf)); (repeat ((first | refine qT ?_ | refine qF ?_ | refine qO ?_ | (with_reducible intro z hz); (first | (replace hz := hz (by omega); subst hz) | subst hz)); (try (conv => whnf))))
     refine Idx.mk k (uv y) _ rfl (by simp [hy]) (by rw [uv_eq y]) ?_
     (try (conv => whnf)); (repeat ((first | refine qT ?_ | refine qF ?_ | refine qO ?_ | (with_reducible intro z hz); (first | (replace hz := hz (by omega); subst hz) | subst hz) | (refine CallV.mk _ (hC _ _ _ (PCw.of hS)) (fun js hjs => ?_); subst hjs)); (try (conv => whnf))))
     exact ⟨k + 1, ⟨by omega, by rw [take_at hx, take_at hy, he, hxy]⟩, by dsimp only; omega, (qSL 2 rfl rfl)⟩
   · rw [decide_eq_false hxy] at hS
     rw [decide_eq_false (fun e => take_ne hx hy hxy (by rw [e]))] at hfin
     (try (conv => whnf)); (repeat ((first | refine qT ?_ | refine qF ?_ | refine qO ?_ | (with_reducible intro z hz); (first | (replace hz := hz (by omega); subst hz) | subst hz)); (try (conv => whnf))))
     refine Idx.mk k (uv x) _ rfl (by simp [hx]) (by rw [uv_eq x]) ?_
     (try (conv => whnf)); (repeat ((first | refine qT ?_ | refine qF ?_ | refine qO ?_ | (with_reducible intro z hz); (first | (replace hz := hz (by omega); subst hz) | subst hz)); (try (conv => whnf))))
     refine Idx.mk k (uv y) _ rfl (by simp [hy]) (by rw [uv_eq y]) ?_
     (try (conv => whnf)); (repeat ((first | refine qT ?_ | refine qF ?_ | refine qO ?_ | (with_reducible intro z hz); (first | (replace hz := hz (by omega); subst hz) | subst hz) | (refine CallV.mk _ (hC _ _ _ (PCw.of hS)) (fun js hjs => ?_); subst hjs)); (try (conv => whnf))))
     exact hfin _ (ILes.refl _)
 | inr hge =>
   obtain rfl : k = u.kids.length := by omega
   rw [List.take_length, c6, List.take_length] at he
   rw [decide_eq_true (Ut.ext' c1 c2 c3 c4 c5 he)] at hfin
   (try (conv => whnf)); (repeat ((first | refine qT ?_ | refine qF ?_ | refine qO ?_ | (with_reducible intro z hz); (first | (replace hz := hz (by omega); subst hz) | subst hz)); (try (conv => whnf))))
   exact hfin _ (ILes.refl _)
end Go.Proofs.YtglkpmhamekpmaaGreat.Po
