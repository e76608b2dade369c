/-
  The law's heavy.
-/
import Derived.Test.YtopohipcpomecaaDoorWEa
import Derived.Test.YtopohipcpomecaaDoorWDq
namespace Go.Proofs.YtopohipcpomecaaDoor.Pd
open Go Go.Pv Go.RowKit Go.Proofs.YtopohipcpomecaaDoor.Pu Go.Proofs.YtopohipcpomecaaDoor.Pb
set_option linter.unusedSimpArgs false
open Lab Lcs Go.Proofs.YtopohipcpomecaaDoor
set_option maxRecDepth 10000
set_option maxHeartbeats 16000000
def txtN : List Wd → Nat
 | [] => 0
 | w :: l => w.text.size + txtN l
theorem txt_take {l : List Wd} {k : Nat} {w : Wd} (h : l[k]? = some w) : txtN (l.take (k + 1)) = txtN (l.take k) + w.text.size := by
 have : ∀ a b : List Wd, txtN (a ++ b) = txtN a + txtN b := by
   intro a b
   induction a with
   | nil => simp [txtN]
   | cons x a ih => simp only [List.cons_append, txtN, ih]; omega
 rw [take_at h, this]
 simp [txtN]
abbrev reachN : Nat := 140737488351232
theorem txt_le {l : List Wd} (h : ∀ w ∈ l, w.text.size ≤ reachN) : txtN l ≤ l.length * reachN := by
 induction l with
 | nil => simp [txtN]
 | cons w l ih =>
   have h1 := h w List.mem_cons_self
   have h2 := ih fun x hx => h x (List.mem_cons_of_mem _ hx)
   rw [txtN, List.length_cons, Nat.succ_mul]
   omega
theorem txt_small {l : List Wd} (h : ∀ w ∈ l, w.text.size ≤ reachN) (hl : l.length ≤ 60) : txtN l ≤ 10000000000000000 := by
 have h1 := txt_le h
 have h2 : l.length * reachN ≤ 60 * reachN := Nat.mul_le_mul_right _ hl
 have h3 : 60 * reachN ≤ 10000000000000000 := by decide
 omega
def bigU (x : Ut) : Bool := decide (60 < x.head.length + x.words.length) || decide (60 < x.label.size)
def heavyL : List Ut → Nat → Bool
 | [], _ => false
 | x :: r, n => if bigU x = true then true else if 3000 < n + txtN (x.head ++ x.words) then true else heavyL r (n + txtN (x.head ++ x.words))
def heavyB (u : Ut) : Bool := if 40 < sizeD u 40 30 then true else heavyL u.all 0
structure RchU (x : Ut) : Prop where
 head : x.head.length ≤ reachN
 words : x.words.length ≤ reachN
 label : x.label.size ≤ reachN
 kids : x.kids.length ≤ reachN
 txt : ∀ w ∈ x.head ++ x.words, w.text.size ≤ reachN
 id : inN x.id.x ∧ inN x.id.y ∧ inN x.id.z
 kind : inN x.kind
 okh : OkW x.head
 okw : OkW x.words
def Rch (u : Ut) : Prop := ∀ x ∈ u.all, RchU x
theorem heavy_step {l : List Ut} {k : Nat} {x : Ut} (hx : l[k]? = some x) (n : Nat) : heavyL (l.drop k) n = if bigU x = true then true else if 3000 < n + txtN (x.head ++ x.words) then true else heavyL (l.drop (k + 1)) (n + txtN (x.head ++ x.words)) := by
 obtain ⟨h, he⟩ := List.getElem?_eq_some_iff.1 hx
 rw [List.drop_eq_getElem_cons h, he, heavyL]
theorem heavy_pc (u : Ut) (hr : Rch u) : PC Tryd.prog envH 11 [uv u] [.bool (heavyB u)] := by
 have hue := uv_eq u
 have hS := size_pc _ u 40 30 (Nat.le_refl _) (by decide) (by decide) (by decide) (by decide)
 have hpz := sizeD_pos u 40 30 (by decide)
 have hfw := sizeD_few u 40 30 (by decide) (by decide)
 unfold heavyB
 generalize sizeD u 40 30 = z at *
 rw [hue] at hS ⊢
 by_cases hz : 40 < z
 · rw [if_pos hz]
   refine PC.of_va (T := tbz) eqs_ok tbz_ok rfl mixed Tryd.func11 rfl rfl (Nat.le_of_ble_eq_true rfl) ?_; intro Γ C WK LP fin h0 hW hC hB hR hLP hfin
   (try (conv => whnf)); (repeat ((first | refine qT ?_ | refine qF ?_ | refine qO ?_ | (with_reducible intro z hz); (first | (replace hz := hz (by omega); subst hz) | subst hz) | (refine CallV.mk _ (hC _ _ _ (PCw.of hS)) (fun js hjs => ?_); subst hjs)); (try (conv => whnf))))
   exact hfin _ (ILes.refl _)
 · rw [if_neg hz]
   have hc := (hfw (by omega)).1
   have hU := units_pc _ u (Nat.le_refl _) (by omega)
   have hal := all_length u
   rw [hue] at hU
   have hml : (u.all.map uv).length = u.all.length := List.length_map _
   have hr' : ∀ x ∈ u.all, RchU x := hr
   generalize u.all = L at *
   refine PC.of_va (T := tbz) eqs_ok tbz_ok rfl mixed Tryd.func11 rfl rfl (Nat.le_of_ble_eq_true rfl) ?_; intro Γ C WK LP fin h0 hW hC hB hR hLP hfin
   (try (conv => whnf)); (repeat ((first | refine qT ?_ | refine qF ?_ | refine qO ?_ | (with_reducible intro z hz); (first | (replace hz := hz (by omega); subst hz) | subst hz) | (refine CallV.mk _ (hC _ _ _ (PCw.of hS)) (fun js hjs => ?_); subst hjs) | (refine CallV.mk _ (hC _ _ _ (PCw.of hU)) (fun js hjs => ?_); subst hjs)); (try (conv => whnf))))
   refine hLP _ _ _ (Nat × Nat) (fun p => ⟨[(3, .imm (.int .i64 (p.2 : Nat))), (12, .imm (.sl 8 (L.map uv))), (13, .imm (.int .i64 ((L.map uv).length : Nat))), (14, .imm (.int .i64 (p.1 : Nat)))], [.box 1 [.imm (.int .i64 u.id.x), .imm (.int .i64 u.id.y), .imm (.int .i64 u.id.z), .imm (.int .i64 u.kind), .imm (.str u.label), .imm (.sl 4 (u.head.map wdv)), .imm (.sl 4 (u.words.map wdv)), .imm (.sl 8 (u.kids.map uv))]]⟩) (fun p => p.1 ≤ L.length ∧ p.2 ≤ 3000 ∧ heavyL (L.drop p.1) p.2 = heavyL L 0) (fun p => L.length - p.1) (0, 0) ⟨Nat.zero_le _, Nat.zero_le _, rfl⟩ (qSL 1 rfl rfl) ?_
   rintro ⟨k, n⟩ ⟨hk, hn, hinv⟩
   dsimp only at hk hn hinv ⊢
   have hho := Nat.lt_or_ge k L.length
   cases hho with
   | inr hge =>
     obtain rfl : k = L.length := by omega
     rw [List.drop_length, heavyL] at hinv
     (try (conv => whnf)); (repeat ((first | refine qT ?_ | refine qF ?_ | refine qO ?_ | (with_reducible intro z hz); (first | (replace hz := hz (by omega); subst hz) | subst hz)); (try (conv => whnf))))
     rw [← hinv] at hfin
     exact hfin _ (ILes.refl _)
   | inl hlt =>
     obtain ⟨x, hx⟩ : ∃ x, L[k]? = some x := ⟨L[k], List.getElem?_eq_getElem hlt⟩
     have hrx := hr' x (List.mem_of_getElem? hx)
     obtain ⟨b1, b2, b3, b4, b5, _, _, _, _⟩ := hrx
     replace b1 : x.head.length ≤ 140737488351232 := b1
     replace b2 : x.words.length ≤ 140737488351232 := b2
     replace b3 : x.label.size ≤ 140737488351232 := b3
     have hux := uv_eq x
     have hhl : (x.head.map wdv).length = x.head.length := List.length_map _
     have hwl : (x.words.map wdv).length = x.words.length := List.length_map _
     rw [heavy_step hx] at hinv
     unfold bigU at hinv
     by_cases h1 : 60 < x.head.length + x.words.length
     · rw [decide_eq_true h1, Bool.true_or, if_pos rfl] at hinv
       (try (conv => whnf)); (repeat ((first | refine qT ?_ | refine qF ?_ | refine qO ?_ | (with_reducible intro z hz); (first | (replace hz := hz (by omega); subst hz) | subst hz)); (try (conv => whnf))))
       refine Idx.mk k (uv x) _ rfl (by simp [hx]) (by rw [hux]; try rfl) ?_
       (try (conv => whnf)); (repeat ((first | refine qT ?_ | refine qF ?_ | refine qO ?_ | (with_reducible intro z hz); (first | (replace hz := hz (by omega); subst hz) | subst hz)); (try (conv => whnf))))
       rw [← hinv] at hfin
       exact hfin _ (ILes.refl _)
     · by_cases h2 : 60 < x.label.size
       · rw [decide_eq_true h2, Bool.or_true, if_pos rfl] at hinv
         (try (conv => whnf)); (repeat ((first | refine qT ?_ | refine qF ?_ | refine qO ?_ | (with_reducible intro z hz); (first | (replace hz := hz (by omega); subst hz) | subst hz)); (try (conv => whnf))))
         refine Idx.mk k (uv x) _ rfl (by simp [hx]) (by rw [hux]; try rfl) ?_
         (try (conv => whnf)); (repeat ((first | refine qT ?_ | refine qF ?_ | refine qO ?_ | (with_reducible intro z hz); (first | (replace hz := hz (by omega); subst hz) | subst hz)); (try (conv => whnf))))
         rw [← hinv] at hfin
         exact hfin _ (ILes.refl _)
       · rw [decide_eq_false h1, decide_eq_false h2, Bool.or_false, if_neg (by simp)] at hinv
         (try (conv => whnf)); (repeat ((first | refine qT ?_ | refine qF ?_ | refine qO ?_ | (with_reducible intro z hz); (first | (replace hz := hz (by omega); subst hz) | subst hz)); (try (conv => whnf))))
         refine Idx.mk k (uv x) _ rfl (by simp [hx]) (by rw [hux]; try rfl) ?_
         (try (conv => whnf)); (repeat ((first | refine qT ?_ | refine qF ?_ | refine qO ?_ | (with_reducible intro z hz); (first | (replace hz := hz (by omega); subst hz) | subst hz)); (try (conv => whnf))))
         have hWl : ((x.head ++ x.words).map wdv).length = x.head.length + x.words.length := by rw [List.length_map, List.length_append]
         have hWL : (x.head ++ x.words).length = x.head.length + x.words.length := List.length_append
         obtain ⟨W, hW2⟩ : ∃ W, x.head ++ x.words = W := ⟨_, rfl⟩
         rw [hW2] at b5 hinv hWl hWL
         refine hLP _ _ _ Nat (fun j => ⟨[(3, .imm (.int .i64 ((n + txtN (W.take j) : Nat) : Int))), (12, .imm (.sl 8 (L.map uv))), (13, .imm (.int .i64 ((L.map uv).length : Nat))), (14, .imm (.int .i64 (k : Nat))), (38, .row 2 1), (39, .imm (.int .i64 (W.length : Nat))), (40, .imm (.int .i64 (j : Nat)))], [.box 1 [.imm (.int .i64 u.id.x), .imm (.int .i64 u.id.y), .imm (.int .i64 u.id.z), .imm (.int .i64 u.kind), .imm (.str u.label), .imm (.sl 4 (u.head.map wdv)), .imm (.sl 4 (u.words.map wdv)), .imm (.sl 8 (u.kids.map uv))], .box 1 [.imm (.int .i64 x.id.x), .imm (.int .i64 x.id.y), .imm (.int .i64 x.id.z), .imm (.int .i64 x.kind), .imm (.str x.label), .imm (.sl 4 (x.head.map wdv)), .imm (.sl 4 (x.words.map wdv)), .imm (.sl 8 (x.kids.map uv))], .row 53 4 1 ((W.map wdv).map .imm)]⟩) (fun j => j ≤ W.length) (fun j => W.length - j) 0 (Nat.zero_le _) ((WeakA.row 2 (((W.map wdv).map .imm)) rfl (by rw [← hW2]; simp)).trans ((WeakA.renew 2 1 rfl (by first | omega | (intro _; rw [hk0 _ _ rfl]; exact Nat.le_of_ble_eq_true rfl)) (by repeat (first | exact trivial | refine And.intro (rgL_imms _ _ _ _) ?_ | refine And.intro rfl ?_))).trans (qSL 3 rfl rfl (hE := by (repeat ((conv => whnf); first | exact trivial | refine And.intro (by first | exact WkOne.any | exact WkOne.eq (by with_reducible rfl) rfl | exact WkOne.eq (congrArg (fun z => PV.imm (IV.int IntKind.i64 z)) (by first | omega | (simp [← hW2, txtN]; done) | (simp [← hW2, txtN]; omega))) rfl | exact WkOne.eq (by first | (simp [← hW2, txtN]; done) | fail) rfl | exact WkOne.eq rfl rfl | exact WkOne.le rfl (ILe.nil _)) ?_)))))) ?_
         intro j hj
         have htl := txt_small (l := W.take j) (fun w hw => b5 w (List.mem_of_mem_take hw)) (by rw [List.length_take]; omega)
         have hrl : ((W.map wdv).map PV.imm).length = W.length := by simp
         have hho := Nat.lt_or_ge j W.length
         cases hho with
         | inl hjt =>
           refine (?_ : ∀ Q : Exit → AS → Prop, vcS _ _ _ _ _ _ _ (loopQA _ _ _ _ _ _ Q)) _; intro Q
           obtain ⟨w, hw⟩ : ∃ w, W[j]? = some w := ⟨W[j], List.getElem?_eq_getElem hjt⟩
           have hwt := txt_take hw
           have hws : w.text.size ≤ 140737488351232 := b5 w (List.mem_of_getElem? hw)
           (try (conv => whnf)); (repeat ((first | refine qT ?_ | refine qF ?_ | refine qO ?_ | (with_reducible intro z hz); (first | (replace hz := hz (by omega); subst hz) | subst hz)); (try (conv => whnf))))
           refine Pos.mk j rfl (by omega) ?_
           (try (conv => whnf)); (repeat ((first | refine qT ?_ | refine qF ?_ | refine qO ?_ | (with_reducible intro z hz); (first | (replace hz := hz (by omega); subst hz) | subst hz)); (try (conv => whnf))))
           refine At.mk (.imm (wdv w)) (by rw [List.getElem?_map, List.getElem?_map, hw]; rfl) ?_
           (try (conv => whnf)); (repeat ((first | refine qT ?_ | refine qF ?_ | refine qO ?_ | (with_reducible intro z hz); (first | (replace hz := hz (by omega); subst hz) | subst hz)); (try (conv => whnf))))
           exact ⟨j + 1, by omega, by dsimp only; omega, (qSL 3 rfl rfl)⟩
         | inr hge =>
           obtain rfl : j = W.length := by omega
           rw [List.take_length] at *
           by_cases h3 : 3000 < n + txtN W
           · rw [if_pos h3] at hinv
             (try (conv => whnf)); (repeat ((first | refine qT ?_ | refine qF ?_ | refine qO ?_ | (with_reducible intro z hz); (first | (replace hz := hz (by omega); subst hz) | subst hz)); (try (conv => whnf))))
             rw [← hinv] at hfin
             exact hfin _ (ILes.refl _)
           · rw [if_neg h3] at hinv
             (try (conv => whnf)); (repeat ((first | refine qT ?_ | refine qF ?_ | refine qO ?_ | (with_reducible intro z hz); (first | (replace hz := hz (by omega); subst hz) | subst hz)); (try (conv => whnf))))
             exact ⟨(k + 1, n + txtN W), ⟨by dsimp only; omega, by dsimp only; omega, hinv⟩, by dsimp only; omega, (qSL 1 rfl rfl)⟩
end Go.Proofs.YtopohipcpomecaaDoor.Pd
