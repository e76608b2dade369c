/-
  The reference's Less, Places, Add, Authors.
-/
import Derived.Test.YtckamfmllkpafaaWWj
namespace Go.Proofs.Ytckamfmllkpafaa.Pw
open Go Go.Pv Go.RowKit Go.Proofs.Ytckamfmllkpafaa.Pu Go.Proofs.Ytckamfmllkpafaa.Pb
set_option linter.unusedSimpArgs false
open Lab Lcs Go.Proofs.Ytckamfmllkpafaa
set_option maxRecDepth 10000
set_option maxHeartbeats 16000000
theorem tqr_ref : tdOf Try.prog 63 = some ⟨true, 2, [.int .i64 0, .int .i64 0], .struct [(0, 1, false), (1, 1, false)]⟩ := by kernel_rfl
theorem tqr_refs : tdOf Try.prog 42 = some ⟨false, 1, [.nil], .slice 63 2 16⟩ := by kernel_rfl
def tdr : List (TypeId × TD) := (63, ⟨true, 2, [.int .i64 0, .int .i64 0], .struct [(0, 1, false), (1, 1, false)]⟩) :: (42, ⟨false, 1, [.nil], .slice 63 2 16⟩) :: tdl
theorem tdr_ok : AllTd Try.prog tdr := ⟨tqr_ref, tqr_refs, tdl_ok⟩
theorem eq_ref (d : Nat) (a b x y : Int) (w : World) : (Op.equalIn (d + 2) 63 (.agg #[.int .i64 a, .int .i64 b]) (.agg #[.int .i64 x, .int .i64 y])).run Try.prog w = .ok (decide (a = x) && decide (b = y)) w := by
 rw [run_equalIn_struct w (d + 1) 63 _ _ (by kernel_rfl) (by kernel_rfl)]
 simp only [Program.fieldsOf, Try.underlying63]
 by_cases h1 : a = x <;> by_cases h2 : b = y <;> simp [Op.eqFields, Go.part, agg_int, run_equalIn_int _ _ _ _ _ _ _ und_int, h1, h2]
theorem chk_ref (em : Bool) (n : Nat) (a b : Int) (w : World) : (Instr.checkKey em (n + 2) 63 (.agg #[.int .i64 a, .int .i64 b])).run Try.prog w = .ok () w := by
 have hc := fun z => chk_int em n z w
 rw [Instr.checkKey]
 simp [run_underlying Try.underlying63, Go.part, agg_int, hc, Result.andThen]
def eqr : TypeId → Option (List CK) := fun t => if t = 63 then some [.int .i64, .int .i64] else eqs t
theorem eqr_ok : EqsOK Try.prog eqr := by
 intro t ks h w x y is js xs ys Q h1 h2 h3 h4
 unfold eqr at h
 split at h
 · rename_i ht
   simp only [Option.some.injEq] at h
   subst h
   subst ht
   obtain ⟨a, _, rfl, ph11⟩ := shape_int h1
   obtain ⟨b, _, rfl, ph12⟩ := shape_int ph11
   obtain ⟨d, _, rfl, ph21⟩ := shape_int h2
   obtain ⟨e, _, rfl, ph22⟩ := shape_int ph21
   obtain rfl := shape_nil ph12
   obtain rfl := shape_nil ph22
   simp only [RepC, RepI] at h3 h4
   obtain ⟨_, _, rfl, _, rfl, _, _, rfl, _, rfl, rfl⟩ := h3
   obtain ⟨_, _, rfl, _, rfl, _, _, rfl, _, rfl, rfl⟩ := h4
   refine ⟨run_eqGuard_agg w _ _ _ _ _ _ (by kernel_rfl), run_eqGuard_agg w _ _ _ _ _ _ (by kernel_rfl), ?_⟩
   have := eq_ref 9998 a b d e w
   exact ⟨by simpa [Op.equal, Op.maxDepth, eqC] using this, fun em => chk_ref em 9998 a b w⟩
 · exact eqs_ok t ks h w x y is js xs ys Q h1 h2 h3 h4
def tbr0 (fr : Nat → List Nat) (hk : Nat → Bool) : Tb := ⟨Pv.look tdr, eqr, fun _ => none, fr, hk, fun _ => 0⟩
theorem tbr_ok {fr : Nat → List Nat} {hk : Nat → Bool} : ∀ t d, (tbr0 fr hk).td t = some d → tdOf Try.prog t = some d := Pv.look_ok tdr_ok
def tbr : Tb := tbr0 (fun _ => []) fun _ => false
structure Rf where
 act : Int
 item : Int
 deriving DecidableEq
def rfv (p : Rf) : IV := .agg [.int .i64 p.act, .int .i64 p.item]
def lessB (p q : Rf) : Bool := decide (p.act < q.act) || (decide (p.act = q.act) && decide (p.item < q.item))
theorem less_pc (p q : Rf) : PC Try.prog env0 44 [rfv p, rfv q] [.bool (lessB p q)] := by
 obtain ⟨a, b⟩ := p
 obtain ⟨x, y⟩ := q
 unfold rfv lessB
 dsimp only
 by_cases h1 : a = x
 · subst h1
   by_cases h2 : b < y
   · rw [decide_eq_true h2, decide_eq_true rfl, Bool.and_self, Bool.or_true]
     refine PC.of_va (T := tbr) eqr_ok tbr_ok rfl mixed Try.func44 rfl rfl (Nat.le_of_ble_eq_true rfl) ?_; intro Γ C WK LP fin h0 hW hC hB hR hLP hfin
     (try (conv => whnf)); (repeat ((first | refine qT ?_ | refine qF ?_ | refine qO ?_ | (with_reducible intro z hz); (first | (replace hz := hz (by omega); subst hz) | subst hz)); (try (conv => whnf))))
     exact hfin _ (ILes.refl _)
   · rw [decide_eq_false h2, Bool.and_false, decide_eq_false (by omega), Bool.or_self]
     refine PC.of_va (T := tbr) eqr_ok tbr_ok rfl mixed Try.func44 rfl rfl (Nat.le_of_ble_eq_true rfl) ?_; intro Γ C WK LP fin h0 hW hC hB hR hLP hfin
     (try (conv => whnf)); (repeat ((first | refine qT ?_ | refine qF ?_ | refine qO ?_ | (with_reducible intro z hz); (first | (replace hz := hz (by omega); subst hz) | subst hz)); (try (conv => whnf))))
     exact hfin _ (ILes.refl _)
 · rw [decide_eq_false h1, Bool.false_and, Bool.or_false]
   by_cases h2 : a < x
   · rw [decide_eq_true h2]
     refine PC.of_va (T := tbr) eqr_ok tbr_ok rfl mixed Try.func44 rfl rfl (Nat.le_of_ble_eq_true rfl) ?_; intro Γ C WK LP fin h0 hW hC hB hR hLP hfin
     (try (conv => whnf)); (repeat ((first | refine qT ?_ | refine qF ?_ | refine qO ?_ | (with_reducible intro z hz); (first | (replace hz := hz (by omega); subst hz) | subst hz)); (try (conv => whnf))))
     exact hfin _ (ILes.refl _)
   · rw [decide_eq_false h2]
     refine PC.of_va (T := tbr) eqr_ok tbr_ok rfl mixed Try.func44 rfl rfl (Nat.le_of_ble_eq_true rfl) ?_; intro Γ C WK LP fin h0 hW hC hB hR hLP hfin
     (try (conv => whnf)); (repeat ((first | refine qT ?_ | refine qF ?_ | refine qO ?_ | (with_reducible intro z hz); (first | (replace hz := hz (by omega); subst hz) | subst hz)); (try (conv => whnf))))
     exact hfin _ (ILes.refl _)
theorem rf_eq {a b : Rf} (h : a = b) : eqC [.int .i64 a.act, .int .i64 a.item] [.int .i64 b.act, .int .i64 b.item] = true := by subst h; simp [eqC]
theorem rf_ne {a b : Rf} (h : a ≠ b) : ¬ eqC [.int .i64 a.act, .int .i64 a.item] [.int .i64 b.act, .int .i64 b.item] = true := fun e => h (by
 obtain ⟨x, y⟩ := a
 obtain ⟨x2, y2⟩ := b
 simpa [eqC] using e)
theorem places_pc (a b : List Rf) (_ha : a.length ≤ 1000000000) (_hb : b.length ≤ 1000000000) : PC Try.prog env0 18 [.sl 2 (a.map rfv), .sl 2 (b.map rfv)] [.bool (decide (a = b))] := by
 have h1 : (a.map rfv).length = a.length := List.length_map _
 have h2 : (b.map rfv).length = b.length := List.length_map _
 by_cases hl : a.length = b.length
 · refine PC.of_va (T := tbr) eqr_ok tbr_ok rfl mixed Try.func18 rfl rfl (Nat.le_of_ble_eq_true rfl) ?_; intro Γ C WK LP fin h0 hW hC hB hR hLP hfin
   (try (conv => whnf)); (repeat ((first | refine qT ?_ | refine qF ?_ | refine qO ?_ | (with_reducible intro z hz); (first | (replace hz := hz (by omega); subst hz) | subst hz)); (try (conv => whnf))))
   refine hLP _ _ _ Nat (fun k => ⟨[(0, .imm (.sl 2 (a.map rfv))), (1, .imm (.sl 2 (b.map rfv))), (5, .imm (.int .i64 (k : Nat)))], []⟩) (fun k => k ≤ a.length ∧ a.take k = b.take k) (fun k => a.length - k) 0 ⟨Nat.zero_le _, rfl⟩ (qSL 0 rfl rfl) ?_
   rintro k ⟨hk, hab⟩
   have hho := Nat.lt_or_ge k a.length
   cases hho with
   | inl hlt =>
     obtain ⟨x, hx⟩ : ∃ x, a[k]? = some x := ⟨a[k], List.getElem?_eq_getElem hlt⟩
     obtain ⟨y, hy⟩ : ∃ y, b[k]? = some y := ⟨b[k]'(by omega), List.getElem?_eq_getElem (by omega)⟩
     by_cases hxy : x = y
     · have hi := rf_eq hxy
       (try (conv => whnf)); (repeat ((first | refine qT ?_ | refine qF ?_ | refine qO ?_ | (with_reducible intro z hz); (first | (replace hz := hz (by omega); subst hz) | subst hz)); (try (conv => whnf))))
       refine Idx.mk k (rfv x) _ rfl (by simp [hx]) rfl ?_
       (try (conv => whnf)); (repeat ((first | refine qT ?_ | refine qF ?_ | refine qO ?_ | (with_reducible intro z hz); (first | (replace hz := hz (by omega); subst hz) | subst hz)); (try (conv => whnf))))
       refine Idx.mk k (rfv y) _ rfl (by simp [hy]) rfl ?_
       (try (conv => whnf)); (repeat ((first | refine qT ?_ | refine qF ?_ | refine qO ?_ | (with_reducible intro z hz); (first | (replace hz := hz (by omega); subst hz) | subst hz)); (try (conv => whnf))))
       exact ⟨k + 1, ⟨by omega, by rw [take_at hx, take_at hy, hab, hxy]⟩, by dsimp only; omega, (qSL 0 rfl rfl)⟩
     · have hi := rf_ne hxy
       (try (conv => whnf)); (repeat ((first | refine qT ?_ | refine qF ?_ | refine qO ?_ | (with_reducible intro z hz); (first | (replace hz := hz (by omega); subst hz) | subst hz)); (try (conv => whnf))))
       refine Idx.mk k (rfv x) _ rfl (by simp [hx]) rfl ?_
       (try (conv => whnf)); (repeat ((first | refine qT ?_ | refine qF ?_ | refine qO ?_ | (with_reducible intro z hz); (first | (replace hz := hz (by omega); subst hz) | subst hz)); (try (conv => whnf))))
       refine Idx.mk k (rfv y) _ rfl (by simp [hy]) rfl ?_
       (try (conv => whnf)); (repeat ((first | refine qT ?_ | refine qF ?_ | refine qO ?_ | (with_reducible intro z hz); (first | (replace hz := hz (by omega); subst hz) | subst hz)); (try (conv => whnf))))
       rw [decide_eq_false (prefix_ne hx hy hxy)] at hfin
       exact hfin _ (ILes.refl _)
   | inr hge =>
     (try (conv => whnf)); (repeat ((first | refine qT ?_ | refine qF ?_ | refine qO ?_ | (with_reducible intro z hz); (first | (replace hz := hz (by omega); subst hz) | subst hz)); (try (conv => whnf))))
     obtain rfl : k = a.length := by omega
     rw [List.take_length, hl, List.take_length] at hab
     rw [decide_eq_true hab] at hfin
     exact hfin _ (ILes.refl _)
 · rw [decide_eq_false (fun e => hl (by rw [e]))]
   refine PC.of_va (T := tbr) eqr_ok tbr_ok rfl mixed Try.func18 rfl rfl (Nat.le_of_ble_eq_true rfl) ?_; intro Γ C WK LP fin h0 hW hC hB hR hLP hfin
   (try (conv => whnf)); (repeat ((first | refine qT ?_ | refine qF ?_ | refine qO ?_ | (with_reducible intro z hz); (first | (replace hz := hz (by omega); subst hz) | subst hz)); (try (conv => whnf))))
   exact hfin _ (ILes.refl _)
def addL (p : Rf) : List Rf → List Rf
 | [] => [p]
 | x :: r => bif lessB x p then x :: addL p r else if x = p then x :: r else p :: x :: r
theorem addL_len (p : Rf) : ∀ l : List Rf, (addL p l).length ≤ l.length + 1
 | [] => by simp [addL]
 | x :: r => by
   have ih := addL_len p r
   unfold addL
   cases lessB x p
   · simp only [cond_false]; split <;> simp only [List.length_cons] <;> omega
   · simp only [cond_true, List.length_cons]; omega
theorem addL_at {x : Rf} {l : List Rf} {k : Nat} (hx : l[k]? = some x) : l.drop k = x :: l.drop (k + 1) := by
 obtain ⟨h, he⟩ := List.getElem?_eq_some_iff.1 hx
 rw [List.drop_eq_getElem_cons h, he]
theorem add_pc (l : List Rf) (p : Rf) (hl : l.length ≤ 1000000) : PC Try.prog env0 37 [.sl 2 (l.map rfv), rfv p] [.sl 2 ((addL p l).map rfv)] := by
 have h1 : (l.map rfv).length = l.length := List.length_map _
 obtain ⟨T, hT⟩ : ∃ T, addL p l = T := ⟨_, rfl⟩
 rw [hT]
 show PC Try.prog env0 37 [.sl 2 (l.map rfv), .agg [.int .i64 p.act, .int .i64 p.item]] [.sl 2 (T.map rfv)]
 refine PC.of_va (T := tbr) eqr_ok tbr_ok rfl mixed Try.func37 rfl rfl (Nat.le_of_ble_eq_true rfl) ?_; intro Γ C WK LP fin h0 hW hC hB hR hLP hfin
 (try (conv => whnf)); (repeat ((first | refine qT ?_ | refine qF ?_ | refine qO ?_ | (with_reducible intro z hz); (first | (replace hz := hz (by omega); subst hz) | subst hz)); (try (conv => whnf))))
 refine hLP _ _ _ Nat (fun k => ⟨[(0, .imm (.sl 2 (l.map rfv))), (3, .ptr 0 1 0), (5, .imm (.int .i64 (k : Nat)))], [.box 1 [.imm (.int .i64 p.act), .imm (.int .i64 p.item)]]⟩) (fun k => k ≤ l.length ∧ T = l.take k ++ addL p (l.drop k)) (fun k => l.length - k) 0 ⟨Nat.zero_le _, by rw [List.take_zero, List.nil_append, List.drop_zero, hT]⟩ (qSL 1 rfl rfl) ?_
 rintro k ⟨hk, hinv⟩
 have hho := Nat.lt_or_ge k l.length
 cases hho with
 | inl hlt =>
   obtain ⟨x, hx⟩ : ∃ x, l[k]? = some x := ⟨l[k], List.getElem?_eq_getElem hlt⟩
   have hd := addL_at hx
   have hLe := less_pc x p
   rw [hd] at hinv
   unfold addL at hinv
   cases hb : lessB x p with
   | true =>
     rw [hb] at hLe hinv
     unfold rfv at hLe
     (try (conv => whnf)); (repeat ((first | refine qT ?_ | refine qF ?_ | refine qO ?_ | (with_reducible intro z hz); (first | (replace hz := hz (by omega); subst hz) | subst hz)); (try (conv => whnf))))
     refine Idx.mk k (rfv x) _ rfl (by simp [hx]) rfl ?_
     (try (conv => whnf)); (repeat ((first | refine qT ?_ | refine qF ?_ | refine qO ?_ | (with_reducible intro z hz); (first | (replace hz := hz (by omega); subst hz) | subst hz) | (refine CallV.mk _ (hC _ _ _ (PCw.of hLe)) (fun js hjs => ?_); subst hjs)); (try (conv => whnf))))
     exact ⟨k + 1, ⟨by omega, by rw [hinv, take_at hx]; simp⟩, by dsimp only; omega, (qSL 1 rfl rfl)⟩
   | false =>
     rw [hb] at hLe hinv
     unfold rfv at hLe
     by_cases hxp : x = p
     · have hi := rf_eq hxp
       have hTl : T = l := by rw [hinv, cond_false, if_pos hxp, ← hd, List.take_append_drop]
       (try (conv => whnf)); (repeat ((first | refine qT ?_ | refine qF ?_ | refine qO ?_ | (with_reducible intro z hz); (first | (replace hz := hz (by omega); subst hz) | subst hz)); (try (conv => whnf))))
       refine Idx.mk k (rfv x) _ rfl (by simp [hx]) rfl ?_
       (try (conv => whnf)); (repeat ((first | refine qT ?_ | refine qF ?_ | refine qO ?_ | (with_reducible intro z hz); (first | (replace hz := hz (by omega); subst hz) | subst hz) | (refine CallV.mk _ (hC _ _ _ (PCw.of hLe)) (fun js hjs => ?_); subst hjs)); (try (conv => whnf))))
       refine Idx.mk k (rfv x) _ rfl (by simp [hx]) rfl ?_
       (try (conv => whnf)); (repeat ((first | refine qT ?_ | refine qF ?_ | refine qO ?_ | (with_reducible intro z hz); (first | (replace hz := hz (by omega); subst hz) | subst hz)); (try (conv => whnf))))
       rw [hTl] at hfin
       exact hfin _ (ILes.refl _)
     · have hi := rf_ne hxp
       have hTl : T = l.take k ++ p :: l.drop k := by rw [hinv, cond_false, if_neg hxp, hd]
       (try (conv => whnf)); (repeat ((first | refine qT ?_ | refine qF ?_ | refine qO ?_ | (with_reducible intro z hz); (first | (replace hz := hz (by omega); subst hz) | subst hz)); (try (conv => whnf))))
       refine Idx.mk k (rfv x) _ rfl (by simp [hx]) rfl ?_
       (try (conv => whnf)); (repeat ((first | refine qT ?_ | refine qF ?_ | refine qO ?_ | (with_reducible intro z hz); (first | (replace hz := hz (by omega); subst hz) | subst hz) | (refine CallV.mk _ (hC _ _ _ (PCw.of hLe)) (fun js hjs => ?_); subst hjs)); (try (conv => whnf))))
       refine Idx.mk k (rfv x) _ rfl (by simp [hx]) rfl ?_
       (try (conv => whnf)); (repeat ((first | refine qT ?_ | refine qF ?_ | refine qO ?_ | (with_reducible intro z hz); (first | (replace hz := hz (by omega); subst hz) | subst hz)); (try (conv => whnf))))
       refine Imms.mk (T.map rfv) (by rw [hTl]; simp; rfl) ?_
       (try (conv => whnf)); (repeat ((first | refine qT ?_ | refine qF ?_ | refine qO ?_ | (with_reducible intro z hz); (first | (replace hz := hz (by omega); subst hz) | subst hz)); (try (conv => whnf))))
       exact hfin _ (ILes.refl _)
 | inr hge =>
   obtain rfl : k = l.length := by omega
   have hTl : T = l ++ [p] := by rw [hinv, List.take_length, List.drop_length]; rfl
   have e1 : List.drop l.length (l.map rfv) = [] := List.drop_of_length_le (by rw [h1]; exact Nat.le_refl _)
   have e2 : List.take l.length (l.map rfv) = l.map rfv := List.take_of_length_le (by rw [h1]; exact Nat.le_refl _)
   (try (conv => whnf)); (repeat ((first | refine qT ?_ | refine qF ?_ | refine qO ?_ | (with_reducible intro z hz); (first | (replace hz := hz (by omega); subst hz) | subst hz)); (try (conv => whnf))))
   refine Imms.mk (T.map rfv) (by rw [hTl]; simp [e1, e2]; rfl) ?_
   (try (conv => whnf)); (repeat ((first | refine qT ?_ | refine qF ?_ | refine qO ?_ | (with_reducible intro z hz); (first | (replace hz := hz (by omega); subst hz) | subst hz)); (try (conv => whnf))))
   exact hfin _ (ILes.refl _)
def refW (x : Wd) : Rf := ⟨x.mark.x, x.mark.y⟩
def authL : List Wd → List Rf → List Rf
 | [], L => L
 | x :: r, L => authL r (addL (refW x) L)
theorem authL_snoc : ∀ (w : List Wd) (x : Wd) (L : List Rf), authL (w ++ [x]) L = addL (refW x) (authL w L)
 | [], _, _ => rfl
 | y :: r, x, L => authL_snoc r x (addL (refW y) L)
theorem authL_len : ∀ (w : List Wd) (L : List Rf), (authL w L).length ≤ L.length + w.length
 | [], L => by simp [authL]
 | y :: r, L => by
   have h1 := authL_len r (addL (refW y) L)
   have h2 := addL_len (refW y) L
   simp only [authL, List.length_cons]
   omega
theorem rauthors_pc (w : List Wd) (hw : w.length ≤ 100000) : PC Try.prog env0 20 [.sl 4 (w.map wdv)] [.sl 2 ((authL w []).map rfv)] := by
 have h1 : (w.map wdv).length = w.length := List.length_map _
 refine PC.of_va (T := tbr) eqr_ok tbr_ok rfl mixed Try.func20 rfl rfl (Nat.le_of_ble_eq_true rfl) ?_; intro Γ C WK LP fin h0 hW hC hB hR hLP hfin
 (try (conv => whnf)); (repeat ((first | refine qT ?_ | refine qF ?_ | refine qO ?_ | (with_reducible intro z hz); (first | (replace hz := hz (by omega); subst hz) | subst hz)); (try (conv => whnf))))
 refine hLP _ _ _ Nat (fun k => ⟨[(0, .imm (.sl 4 (w.map wdv))), (3, .imm (.sl 2 ((authL (w.take k) []).map rfv))), (4, .imm (.int .i64 (k : Nat)))], []⟩) (fun k => k ≤ w.length) (fun k => w.length - k) 0 (Nat.zero_le _) ((WeakA.frozen 0 ([]) rfl (by first | rfl | simp) (ILe.refl _) (by repeat (first | exact trivial | refine And.intro (fzL_imm _ _ _ _) ?_ | refine And.intro rfl ?_))).trans (qSL 0 rfl rfl)) ?_
 intro k hk
 have hho := Nat.lt_or_ge k w.length
 cases hho with
 | inl hlt =>
   obtain ⟨x, hx⟩ : ∃ x, w[k]? = some x := ⟨w[k], List.getElem?_eq_getElem hlt⟩
   have hAd := add_pc (authL (w.take k) []) (refW x) (by have := authL_len (w.take k) []; rw [List.length_take, List.length_nil] at this; omega)
   rw [← authL_snoc, ← take_at hx] at hAd
   unfold refW rfv at hAd
   dsimp only at hAd
   (try (conv => whnf)); (repeat ((first | refine qT ?_ | refine qF ?_ | refine qO ?_ | (with_reducible intro z hz); (first | (replace hz := hz (by omega); subst hz) | subst hz)); (try (conv => whnf))))
   refine Idx.mk k (wdv x) _ rfl (by simp [hx]) rfl ?_
   (try (conv => whnf)); (repeat ((first | refine qT ?_ | refine qF ?_ | refine qO ?_ | (with_reducible intro z hz); (first | (replace hz := hz (by omega); subst hz) | subst hz)); (try (conv => whnf))))
   refine Idx.mk k (wdv x) _ rfl (by simp [hx]) rfl ?_
   (try (conv => whnf)); (repeat ((first | refine qT ?_ | refine qF ?_ | refine qO ?_ | (with_reducible intro z hz); (first | (replace hz := hz (by omega); subst hz) | subst hz) | (refine CallV.mk _ (hC _ _ _ (PCw.of hAd)) (fun js hjs => ?_); subst hjs)); (try (conv => whnf))))
   exact ⟨k + 1, by omega, by dsimp only; omega, (qSL 0 rfl rfl)⟩
 | inr hge =>
   obtain rfl : k = w.length := by omega
   rw [List.take_length]
   (try (conv => whnf)); (repeat ((first | refine qT ?_ | refine qF ?_ | refine qO ?_ | (with_reducible intro z hz); (first | (replace hz := hz (by omega); subst hz) | subst hz)); (try (conv => whnf))))
   exact hfin _ (ILes.refl _)
end Go.Proofs.Ytckamfmllkpafaa.Pw
