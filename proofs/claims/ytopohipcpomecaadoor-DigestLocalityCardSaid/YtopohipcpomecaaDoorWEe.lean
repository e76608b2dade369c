/-
  The law's turned and above.
-/
import Derived.Test.YtopohipcpomecaaDoorWEd
namespace Go.Proofs.YtopohipcpomecaaDoor.Pd
open Go Go.Pv Go.RowKit Go.Proofs.YtopohipcpomecaaDoor.Pu Go.Proofs.YtopohipcpomecaaDoor.Pb
set_option linter.unusedSimpArgs false
open Lab Lcs Go.Proofs.YtopohipcpomecaaDoor
set_option maxRecDepth 10000
set_option maxHeartbeats 16000000
def oi : Option Nat → Int
 | none => -1
 | some n => (n : Nat)
def rowT (kids : List Ut) (a k : Nat) : List Ut := (turnL (kids.take k) (some a)).1 ++ kids.drop k
def leftT (kids : List Ut) (a k : Nat) : Option Nat := (turnL (kids.take k) (some a)).2
theorem rowT_len (kids : List Ut) (a k : Nat) : (rowT kids a k).length = kids.length := by
 unfold rowT
 rw [List.length_append, turnL_len, List.length_take, List.length_drop]
 omega
theorem rowT_at {kids : List Ut} {a k : Nat} {x : Ut} (hx : kids[k]? = some x) : (rowT kids a k)[k]? = some x := by
 have hk := (List.getElem?_eq_some_iff.1 hx).1
 unfold rowT
 rw [List.getElem?_append_right (by rw [turnL_len, List.length_take]; omega), turnL_len, List.length_take, List.getElem?_drop]
 rw [show k + (k - min k kids.length) = k by omega]
 exact hx
theorem leftT_next {kids : List Ut} {a k n : Nat} {x : Ut} (hx : kids[k]? = some x) (hl : leftT kids a k = some n) : leftT kids a (k + 1) = (turn x n).2 := by
 unfold leftT at *
 rw [take_at hx, turnL_app, hl]
theorem rowT_next {kids : List Ut} {a k n : Nat} {x : Ut} (hx : kids[k]? = some x) (hl : leftT kids a k = some n) : (rowT kids a k).set k (turn x n).1 = rowT kids a (k + 1) := by
 have hk := (List.getElem?_eq_some_iff.1 hx).1
 unfold leftT at hl
 unfold rowT
 rw [take_at hx, turnL_app, hl]
 dsimp only
 rw [List.set_append_right _ _ (by rw [turnL_len, List.length_take]; omega), turnL_len, List.length_take, show k - min k kids.length = 0 by omega, List.drop_eq_getElem_cons hk, List.set_cons_zero, List.append_assoc]
 rfl
theorem done_turn {kids : List Ut} {a k : Nat} (hl : leftT kids a k = none) : rowT kids a k = (turnL kids (some a)).1 ∧ (turnL kids (some a)).2 = none := by
 have : ∀ (l r : List Ut) (s : Option Nat), (turnL l s).2 = none → turnL (l ++ r) s = ((turnL l s).1 ++ r, none) := by
   intro l r s hs
   induction r generalizing l with
   | nil => rw [List.append_nil, List.append_nil, ← hs]
   | cons x r ih =>
     have h1 := turnL_app l x s
     rw [hs] at h1
     have h2 := ih (l ++ [x]) (by rw [h1])
     rw [List.append_assoc, List.singleton_append] at h2
     rw [h2, h1, List.append_assoc, List.singleton_append]
 have h := this (kids.take k) (kids.drop k) (some a) hl
 rw [List.take_append_drop] at h
 rw [h]
 exact ⟨rfl, rfl⟩
theorem turn_mk (u : Ut) (a : Nat) : turn u (a + 1) = (.mk u.id u.kind u.label u.head u.words (turnL u.kids (some a)).1, (turnL u.kids (some a)).2) := by cases u; rw [turn]; rfl
theorem turn_zero (u : Ut) : turn u 0 = (.mk u.id u.kind u.label u.head (u.words ++ [moreW]) u.kids, none) := by cases u; rw [turn]; rfl
theorem turned_pc (N : Nat) : ∀ (u : Ut) (a : Nat), u.count ≤ N → a ≤ 1000000 → SmW u → PC Tryd.prog envH 23 [uv u, .int .i64 (a : Nat)] [uv (turn u a).1, .int .i64 (oi (turn u a).2)] := by
 induction N with
 | zero => intro u a h; have := count_pos u; omega
 | succ N ih =>
 intro u a hN ha hsb
 have hue := uv_eq u
 obtain ⟨b1, b2, b3⟩ := hsb.self
 have hkl : (u.kids.map uv).length = u.kids.length := List.length_map _
 have hwl : (u.words.map wdv).length = u.words.length := List.length_map _
 cases a with
 | zero =>
   rw [turn_zero, uv_mk, hue]
   refine PC.of_va (T := tbz) eqs_ok tbz_ok rfl mixed Tryd.func23 rfl rfl (Nat.le_of_ble_eq_true rfl) ?_; intro Γ C WK LP fin h0 hW hC hB hR hLP hfin
   (try (conv => whnf)); (repeat ((first | refine qT ?_ | refine qF ?_ | refine qO ?_ | (with_reducible intro z hz); (first | (replace hz := hz (by omega); subst hz) | subst hz)); (try (conv => whnf))))
   refine Imms.mk ((u.words ++ [moreW]).map wdv) (by simp [moreW, wdv]) ?_
   exact hfin _ (ILes.refl _)
 | succ a =>
   rw [turn_mk, uv_mk, hue]
   have hz0 : (((a + 1 : Nat) : Int)) - 1 = oi (leftT u.kids a 0) := by simp [leftT, turnL, oi]
   refine PC.of_va (T := tbz) eqs_ok tbz_ok rfl mixed Tryd.func23 rfl rfl (Nat.le_of_ble_eq_true rfl) ?_; intro Γ C WK LP fin h0 hW hC hB hR hLP hfin
   (try (conv => whnf)); (repeat ((first | refine qT ?_ | refine qF ?_ | refine qO ?_ | (with_reducible intro z hz); (first | (replace hz := hz (by omega); subst hz) | subst hz)); (try (conv => whnf))))
   rw [hz0]
   refine hLP _ _ _ Nat (fun k => ⟨[(1, .imm (.int .i64 (oi (leftT u.kids a k)))), (2, .ptr 0 1 0), (4, .ptr 1 1 0), (6, .row 2 1), (25, .row 2 1), (26, .imm (.int .i64 (u.kids.length : Nat))), (27, .imm (.int .i64 (k : Nat)))], [.box 1 [.imm (.int .i64 u.id.x), .imm (.int .i64 u.id.y), .imm (.int .i64 u.id.z), .imm (.int .i64 u.kind), .imm (.str u.label), .imm (.sl 4 (u.head.map wdv)), .imm (.sl 4 (u.words.map wdv)), .imm (.sl 8 (u.kids.map uv))], zbox, .row 30 8 1 (((rowT u.kids a k).map uv).map .imm)]⟩) (fun k => k ≤ u.kids.length ∧ ∀ n, leftT u.kids a k = some n → n ≤ a) (fun k => u.kids.length - k) 0 ⟨Nat.zero_le _, fun n hn => by simp [leftT, turnL] at hn; omega⟩ ((WeakA.row 2 ((((rowT u.kids a 0).map uv).map .imm)) rfl (by simp [rowT, turnL])).trans ((WeakA.renew 2 1 rfl (by first | omega | (intro _; rw [hk0 _ _ rfl]; exact Nat.le_of_ble_eq_true rfl)) (by repeat (first | exact trivial | refine And.intro (rgL_imms _ _ _ _) ?_ | refine And.intro rfl ?_))).trans (qSL 3 rfl rfl))) ?_
   rintro k ⟨hk, hle⟩
   have hrl : (((rowT u.kids a k).map uv).map PV.imm).length = u.kids.length := by simp [rowT_len]
   have hho := Nat.lt_or_ge k u.kids.length
   cases hho with
   | inr hge =>
     obtain rfl : k = u.kids.length := by omega
     have e1 : rowT u.kids a u.kids.length = (turnL u.kids (some a)).1 := by simp [rowT]
     have e2 : leftT u.kids a u.kids.length = (turnL u.kids (some a)).2 := by simp [leftT]
     rw [e1, e2]
     (try (conv => whnf)); (repeat ((first | refine qT ?_ | refine qF ?_ | refine qO ?_ | (with_reducible intro z hz); (first | (replace hz := hz (by omega); subst hz) | subst hz)); (try (conv => whnf))))
     refine Imms.mk ((turnL u.kids (some a)).1.map uv) rfl ?_
     exact hfin _ (ILes.refl _)
   | inl hlt =>
     cases hl : leftT u.kids a k with
     | none =>
       obtain ⟨e1, e2⟩ := done_turn hl
       rw [e1]
       rw [e2] at hfin
       dsimp only [oi] at hfin ⊢
       (try (conv => whnf)); (repeat ((first | refine qT ?_ | refine qF ?_ | refine qO ?_ | (with_reducible intro z hz); (first | (replace hz := hz (by omega); subst hz) | subst hz)); (try (conv => whnf))))
       refine Imms.mk ((turnL u.kids (some a)).1.map uv) rfl ?_
       exact hfin _ (ILes.refl _)
     | some n =>
       refine (?_ : ∀ Q : Exit → AS → Prop, vcS _ _ _ _ _ _ _ (loopQA _ _ _ _ _ _ Q)) _; intro Q
       obtain ⟨x, hx⟩ : ∃ x, u.kids[k]? = some x := ⟨u.kids[k], List.getElem?_eq_getElem hlt⟩
       have hna := hle n hl
       have h1 := kid_lt' hx
       have hux := uv_eq x
       have hI := ih x n (by omega) (by omega) (hsb.kid (List.mem_of_getElem? hx))
       have hat := rowT_at (a := a) hx
       have hst := rowT_next hx hl
       have hnx := leftT_next hx hl
       have hnle : ∀ m, (turn x n).2 = some m → m ≤ a := fun m hm => by
         by_cases hc : n < x.count
         · rw [turn_near x n hc] at hm; cases hm
         · rw [turn_far x n (by omega)] at hm
           have := Option.some.inj hm
           omega
       have hsy := uv_eq (turn x n).1
       rw [hux] at hI
       generalize (turn x n).1 = y at *
       generalize (turn x n).2 = s at *
       rw [hsy] at hI
       dsimp only [oi]
       (try (conv => whnf)); (repeat ((first | refine qT ?_ | refine qF ?_ | refine qO ?_ | (with_reducible intro z hz); (first | (replace hz := hz (by omega); subst hz) | subst hz)); (try (conv => whnf))))
       refine Pos.mk k rfl (by omega) ?_
       (try (conv => whnf)); (repeat ((first | refine qT ?_ | refine qF ?_ | refine qO ?_ | (with_reducible intro z hz); (first | (replace hz := hz (by omega); subst hz) | subst hz)); (try (conv => whnf))))
       refine At.mk (.imm (uv x)) (by rw [List.getElem?_map, List.getElem?_map, hat]; rfl) ?_
       rw [hux]
       (try (conv => whnf)); (repeat ((first | refine qT ?_ | refine qF ?_ | refine qO ?_ | (with_reducible intro z hz); (first | (replace hz := hz (by omega); subst hz) | subst hz) | (refine CallV.mk _ (hC _ _ _ (PCw.of hI)) (fun js hjs => ?_); subst hjs)); (try (conv => whnf))))
       refine Pos.mk k rfl (by omega) ?_
       (try (conv => whnf)); (repeat ((first | refine qT ?_ | refine qF ?_ | refine qO ?_ | (with_reducible intro z hz); (first | (replace hz := hz (by omega); subst hz) | subst hz)); (try (conv => whnf))))
       refine At.mk (.imm (uv x)) (by rw [List.getElem?_map, List.getElem?_map, hat]; rfl) ?_
       rw [hux]
       (try (conv => whnf)); (repeat ((first | refine qT ?_ | refine qF ?_ | refine qO ?_ | (with_reducible intro z hz); (first | (replace hz := hz (by omega); subst hz) | subst hz)); (try (conv => whnf))))
       refine ⟨k + 1, ⟨by omega, by rw [hnx]; exact hnle⟩, by dsimp only; omega, ?_⟩
       dsimp only []
       rw [hnx]
       exact ((WeakA.row 2 ((((rowT u.kids a (k + 1)).map uv).map .imm)) rfl (by rw [← hst, List.map_set, List.map_set, hsy]; rfl)).trans (qSL 3 rfl rfl))
theorem abv_zero (u : Ut) : abv u 0 = [u.id] := by cases u; rw [abv]; rfl
theorem abv_succ (u : Ut) (a : Nat) : abv u (a + 1) = abvL u.id u.kids a := by cases u; rw [abv]; rfl
theorem abv_drop {id : Trip} {l : List Ut} {k : Nat} {x : Ut} (hx : l[k]? = some x) (a : Nat) : abvL id (l.drop k) a = if a < x.count then id :: abv x a else abvL id (l.drop (k + 1)) (a - x.count) := by
 obtain ⟨h, he⟩ := List.getElem?_eq_some_iff.1 hx
 rw [List.drop_eq_getElem_cons h, he, abvL]
theorem counts_drop {l : List Ut} {k : Nat} {x : Ut} (hx : l[k]? = some x) : Ut.counts (l.drop k) = x.count + Ut.counts (l.drop (k + 1)) := by
 obtain ⟨h, he⟩ := List.getElem?_eq_some_iff.1 hx
 rw [List.drop_eq_getElem_cons h, he, Ut.counts]
mutual
theorem abv_len : ∀ (u : Ut) (a : Nat), (abv u a).length ≤ u.count
 | .mk id kind label head words kids, 0 => by rw [abv, count_mk, List.length_singleton]; omega
 | .mk id kind label head words kids, a + 1 => by rw [abv, count_mk]; have := abvL_len id kids a; omega
theorem abvL_len (id : Trip) : ∀ (l : List Ut) (a : Nat), (abvL id l a).length ≤ 1 + Ut.counts l
 | [], a => by rw [abvL]; simp
 | k :: r, a => by
   rw [abvL, Ut.counts]
   split
   · have := abv_len k a; rw [List.length_cons]; omega
   · have := abvL_len id r (a - k.count); omega
end
theorem above_pc (N : Nat) : ∀ (u : Ut) (a : Nat), u.count ≤ N → u.count ≤ 1000000 → a < u.count → PC Tryd.prog envH 24 [uv u, .int .i64 (a : Nat)] [.sl 3 ((abv u a).map idv)] := by
 induction N with
 | zero => intro u a h; have := count_pos u; omega
 | succ N ih =>
 intro u a hN hc ha
 have hue := uv_eq u
 have hkl : (u.kids.map uv).length = u.kids.length := List.length_map _
 have hcu := Ut.count_eq u
 have hkc := kids_counts u.kids
 cases a with
 | zero =>
   rw [abv_zero, hue]
   refine PC.of_va (T := tbz) eqs_ok tbz_ok rfl mixed Tryd.func24 rfl rfl (Nat.le_of_ble_eq_true rfl) ?_; intro Γ C WK LP fin h0 hW hC hB hR hLP hfin
   (try (conv => whnf)); (repeat ((first | refine qT ?_ | refine qF ?_ | refine qO ?_ | (with_reducible intro z hz); (first | (replace hz := hz (by omega); subst hz) | subst hz)); (try (conv => whnf))))
   refine Imms.mk [idv u.id] rfl ?_
   exact hfin _ (ILes.refl _)
 | succ a =>
   rw [abv_succ, hue]
   refine PC.of_va (T := tbz) eqs_ok tbz_ok rfl mixed Tryd.func24 rfl rfl (Nat.le_of_ble_eq_true rfl) ?_; intro Γ C WK LP fin h0 hW hC hB hR hLP hfin
   (try (conv => whnf)); (repeat ((first | refine qT ?_ | refine qF ?_ | refine qO ?_ | (with_reducible intro z hz); (first | (replace hz := hz (by omega); subst hz) | subst hz)); (try (conv => whnf))))
   refine hLP _ _ _ (Nat × Nat) (fun p => ⟨[(1, .imm (.int .i64 (p.2 : Nat))), (2, .ptr 0 1 0), (16, .imm (.sl 8 (u.kids.map uv))), (17, .imm (.int .i64 (u.kids.length : Nat))), (18, .imm (.int .i64 (p.1 : Nat)))], [.box 1 [.imm (.int .i64 u.id.x), .imm (.int .i64 u.id.y), .imm (.int .i64 u.id.z), .imm (.int .i64 u.kind), .imm (.str u.label), .imm (.sl 4 (u.head.map wdv)), .imm (.sl 4 (u.words.map wdv)), .imm (.sl 8 (u.kids.map uv))]]⟩) (fun p => p.1 ≤ u.kids.length ∧ p.2 < Ut.counts (u.kids.drop p.1) ∧ p.2 ≤ a ∧ abvL u.id (u.kids.drop p.1) p.2 = abvL u.id u.kids a) (fun p => u.kids.length - p.1) (0, a) ⟨Nat.zero_le _, by rw [List.drop_zero]; dsimp only; omega, Nat.le_refl _, rfl⟩ (qSL 1 rfl rfl) ?_
   rintro ⟨k, n⟩ ⟨hk, hn, hna, hinv⟩
   dsimp only at hk hn hna hinv ⊢
   have hlt : k < u.kids.length := by
     rcases Nat.lt_or_ge k u.kids.length with h | h
     · exact h
     · rw [List.drop_eq_nil_of_le h] at hn; simp [Ut.counts] at hn
   obtain ⟨x, hx⟩ : ∃ x, u.kids[k]? = some x := ⟨u.kids[k], List.getElem?_eq_getElem hlt⟩
   have h1 := kid_lt' hx
   have hux := uv_eq x
   have hcd := counts_drop hx
   rw [abv_drop hx] at hinv
   have hU := units_pc _ x (Nat.le_refl _) (by omega)
   have hal : (x.all.map uv).length = x.count := by rw [List.length_map, all_length]
   rw [hux] at hU
   generalize x.all.map uv = X at *
   by_cases hnc : n < x.count
   · rw [if_pos hnc] at hinv
     have hI := ih x n (by omega) (by omega) hnc
     have hle := abv_len x n
     have hll : ((abv x n).map idv).length = (abv x n).length := List.length_map _
     rw [← hinv] at hfin
     rw [hux] at hI
     generalize abv x n = Y at *
     (try (conv => whnf)); (repeat ((first | refine qT ?_ | refine qF ?_ | refine qO ?_ | (with_reducible intro z hz); (first | (replace hz := hz (by omega); subst hz) | subst hz)); (try (conv => whnf))))
     refine Idx.mk k (uv x) _ rfl (by simp [hx]) (by rw [hux]; try rfl) ?_
     (try (conv => whnf)); (repeat ((first | refine qT ?_ | refine qF ?_ | refine qO ?_ | (with_reducible intro z hz); (first | (replace hz := hz (by omega); subst hz) | subst hz) | (refine CallV.mk _ (hC _ _ _ (PCw.of hU)) (fun js hjs => ?_); subst hjs) | (refine CallV.mk _ (hC _ _ _ (PCw.of hI)) (fun js hjs => ?_); subst hjs)); (try (conv => whnf))))
     refine Imms.mk ((u.id :: Y).map idv) rfl ?_
     exact hfin _ (ILes.refl _)
   · rw [if_neg hnc] at hinv
     (try (conv => whnf)); (repeat ((first | refine qT ?_ | refine qF ?_ | refine qO ?_ | (with_reducible intro z hz); (first | (replace hz := hz (by omega); subst hz) | subst hz)); (try (conv => whnf))))
     refine Idx.mk k (uv x) _ rfl (by simp [hx]) (by rw [hux]; try rfl) ?_
     (try (conv => whnf)); (repeat ((first | refine qT ?_ | refine qF ?_ | refine qO ?_ | (with_reducible intro z hz); (first | (replace hz := hz (by omega); subst hz) | subst hz) | (refine CallV.mk _ (hC _ _ _ (PCw.of hU)) (fun js hjs => ?_); subst hjs)); (try (conv => whnf))))
     exact ⟨(k + 1, n - x.count), ⟨by dsimp only; omega, by dsimp only; omega, by dsimp only; omega, hinv⟩, by dsimp only; omega, (qSL 1 rfl rfl)⟩
end Go.Proofs.YtopohipcpomecaaDoor.Pd
