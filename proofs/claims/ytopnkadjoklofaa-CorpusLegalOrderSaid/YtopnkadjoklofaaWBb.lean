/-
  Corpus: enacted items as plain values, as they come in; legal order, by the program and by the reference; the law of it.
-/
import Derived.Test.YtopnkadjoklofaaWBa
namespace Go.Proofs.Ytopnkadjoklofaa.Po
open Go Go.Pv Go.RowKit
set_option linter.unusedSimpArgs false
set_option maxRecDepth 10000
set_option maxHeartbeats 16000000
abbrev Str := ByteArray
structure St where
 k : Int
 d : Int
 e : Str
structure Im where
 kind : Int
 m : Nat → IV
 st : St
 a : Int
 i : Int
 d : Int
 ev : Str
 b : IV
structure En where
 act : Int
 item : Int
 day : Int
 it : Im
def imv (x : Im) : IV := .agg [.int .i64 x.kind, x.m 1, x.m 2, x.m 3, x.m 4, x.m 5, x.m 6, x.m 7, x.m 8, x.m 9, x.m 10, x.m 11, x.m 12, x.m 13, x.m 14, x.m 15, x.m 16, .int .i64 x.st.k, .int .i64 x.st.d, .str x.st.e, .int .i64 x.a, .int .i64 x.i, .int .i64 x.d, .str x.ev, x.b]
def env1 (x : En) : IV := .agg [.int .i64 x.act, .int .i64 x.item, .int .i64 x.day, .int .i64 x.it.kind, x.it.m 1, x.it.m 2, x.it.m 3, x.it.m 4, x.it.m 5, x.it.m 6, x.it.m 7, x.it.m 8, x.it.m 9, x.it.m 10, x.it.m 11, x.it.m 12, x.it.m 13, x.it.m 14, x.it.m 15, x.it.m 16, .int .i64 x.it.st.k, .int .i64 x.it.st.d, .str x.it.st.e, .int .i64 x.it.a, .int .i64 x.it.i, .int .i64 x.it.d, .str x.it.ev, x.it.b]
def S0 : List TypeId := [3, 9, 32, 129, 131, 33, 36, 34, 67, 30, 37, 39, 42, 40, 44]
theorem S0_ok : closed Try.prog S0 = true := by kernel_rfl
theorem unit8 {is : List IV} (h : OkC Try.prog 36 is) : ∃ a b c d e f g k : IV, is = [a, b, c, d, e, f, g, k] := by
 obtain ⟨parts, rfl, hl, hp⟩ := h.strct_inv Try.underlying36
 match parts, hl with
 | [p0, p1, p2, p3, p4, p5], _ =>
   obtain ⟨qs, rfl, hql, hq⟩ := (hp 0 _ _ rfl rfl).strct_inv Try.underlying32
   obtain ⟨d, rfl⟩ := (hp 1 _ _ rfl rfl).len1 (by kernel_rfl)
   obtain ⟨e, rfl⟩ := (hp 2 _ _ rfl rfl).len1 (by kernel_rfl)
   obtain ⟨f, rfl⟩ := (hp 3 _ _ rfl rfl).len1 (by kernel_rfl)
   obtain ⟨g, rfl⟩ := (hp 4 _ _ rfl rfl).len1 (by kernel_rfl)
   obtain ⟨k, rfl⟩ := (hp 5 _ _ rfl rfl).len1 (by kernel_rfl)
   match qs, hql with
   | [q0, q1, q2], _ =>
     obtain ⟨a, rfl⟩ := (hq 0 _ _ rfl rfl).len1 (by kernel_rfl)
     obtain ⟨b, rfl⟩ := (hq 1 _ _ rfl rfl).len1 (by kernel_rfl)
     obtain ⟨c, rfl⟩ := (hq 2 _ _ rfl rfl).len1 (by kernel_rfl)
     exact ⟨a, b, c, d, e, f, g, k, rfl⟩
def FitS (x : St) : Prop := x.e.size ≤ maxLen
def FitI (x : Im) : Prop := FitS x.st ∧ x.ev.size ≤ maxLen
theorem start_of {is : List IV} (h : OkC Try.prog 39 is) : ∃ x : St, is = [.int .i64 x.k, .int .i64 x.d, .str x.e] ∧ FitS x := by
 obtain ⟨parts, rfl, hl, hp⟩ := h.strct_inv Try.underlying39
 match parts, hl with
 | [p0, p1, p2], _ =>
   obtain ⟨k, rfl, _⟩ := (hp 0 _ _ rfl rfl).int_inv Try.underlying3
   obtain ⟨d, rfl, _⟩ := (hp 1 _ _ rfl rfl).int_inv Try.underlying3
   obtain ⟨e, rfl, h0⟩ := (hp 2 _ _ rfl rfl).str_inv Try.underlying9
   exact ⟨⟨k, d, e⟩, rfl, h0⟩
theorem item_of {is : List IV} (h : OkC Try.prog 42 is) : ∃ x : Im, IV.agg is = imv x ∧ FitI x := by
 obtain ⟨parts, rfl, hl, hp⟩ := h.strct_inv Try.underlying42
 match parts, hl with
 | [p0, p1, p2, p3, p4, p5, p6, p7, p8, p9, p10, p11, p12, p13, p14, p15], _ =>
   obtain ⟨k, rfl, _⟩ := (hp 0 _ _ rfl rfl).int_inv Try.underlying3
   obtain ⟨x1, rfl⟩ := (hp 1 _ _ rfl rfl).len1 (by kernel_rfl)
   obtain ⟨x2, rfl⟩ := (hp 2 _ _ rfl rfl).len1 (by kernel_rfl)
   obtain ⟨x3, rfl⟩ := (hp 3 _ _ rfl rfl).len1 (by kernel_rfl)
   obtain ⟨x4, rfl⟩ := (hp 4 _ _ rfl rfl).len1 (by kernel_rfl)
   obtain ⟨y1, y2, y3, y4, y5, y6, y7, y8, rfl⟩ := unit8 (hp 5 _ _ rfl rfl)
   obtain ⟨x6, rfl⟩ := (hp 6 _ _ rfl rfl).len1 (by kernel_rfl)
   obtain ⟨x7, rfl⟩ := (hp 7 _ _ rfl rfl).len1 (by kernel_rfl)
   obtain ⟨x8, rfl⟩ := (hp 8 _ _ rfl rfl).len1 (by kernel_rfl)
   obtain ⟨x9, rfl⟩ := (hp 9 _ _ rfl rfl).len1 (by kernel_rfl)
   obtain ⟨st, rfl, hs⟩ := start_of (hp 10 _ _ rfl rfl)
   obtain ⟨a, rfl, _⟩ := (hp 11 _ _ rfl rfl).int_inv Try.underlying3
   obtain ⟨i, rfl, _⟩ := (hp 12 _ _ rfl rfl).int_inv Try.underlying3
   obtain ⟨d, rfl, _⟩ := (hp 13 _ _ rfl rfl).int_inv Try.underlying3
   obtain ⟨ev, rfl, he⟩ := (hp 14 _ _ rfl rfl).str_inv Try.underlying9
   obtain ⟨b, rfl⟩ := (hp 15 _ _ rfl rfl).len1 (by kernel_rfl)
   exact ⟨⟨k, fun n => ([.nil, x1, x2, x3, x4, y1, y2, y3, y4, y5, y6, y7, y8, x6, x7, x8, x9] : List IV).getD n .nil, st, a, i, d, ev, b⟩, rfl, hs, he⟩
theorem imv_en {is : List IV} {x : Im} (h : IV.agg is = imv x) (a b c : Int) : IV.agg (.int .i64 a :: .int .i64 b :: .int .i64 c :: is) = env1 ⟨a, b, c, x⟩ := by
 unfold imv at h
 injection h with h
 subst h
 rfl
theorem en_of {is : List IV} (h : OkC Try.prog 44 is) : ∃ x : En, IV.agg is = env1 x ∧ FitI x.it := by
 obtain ⟨parts, rfl, hl, hp⟩ := h.strct_inv Try.underlying44
 match parts, hl with
 | [p0, p1, p2, p3], _ =>
   obtain ⟨a, rfl, _⟩ := (hp 0 _ _ rfl rfl).int_inv Try.underlying3
   obtain ⟨b, rfl, _⟩ := (hp 1 _ _ rfl rfl).int_inv Try.underlying3
   obtain ⟨c, rfl, _⟩ := (hp 2 _ _ rfl rfl).int_inv Try.underlying3
   obtain ⟨x, hx, hf⟩ := item_of (hp 3 _ _ rfl rfl)
   refine ⟨⟨a, b, c, x⟩, ?_, hf⟩
   have := imv_en hx a b c
   simpa using this
section
variable {H : Type} {enc : TypeId × Value → H} {w : World} {bs : Nat} {spare : Nat → Bool} {held : Bool}
theorem en_open {cs : Array Value} {d : DataW H} {p : List MemPlace} (h : ∃ fuel, DataW.trod enc Try.prog w bs spare held fuel 44 cs.toList = some (d, p)) :
   ∃ x : En, RepI (fun b => b < w.heap.size) w (env1 x) (.agg cs) ∧ FitI x.it := by
 obtain ⟨fuel, h⟩ := h
 obtain ⟨is, h1, h2⟩ := open_cells S0_ok fuel 44 cs.toList _ (by decide) h
 obtain ⟨x, h3, h4⟩ := en_of h2
 refine ⟨x, ?_, h4⟩
 rw [← h3, RepI_agg]
 exact ⟨_, by simp, h1⟩
end
theorem env_eq (x : En) : env1 x = .agg [.int .i64 x.act, .int .i64 x.item, .int .i64 x.day, .int .i64 x.it.kind, x.it.m 1, x.it.m 2, x.it.m 3, x.it.m 4, x.it.m 5, x.it.m 6, x.it.m 7, x.it.m 8, x.it.m 9, x.it.m 10, x.it.m 11, x.it.m 12, x.it.m 13, x.it.m 14, x.it.m 15, x.it.m 16, .int .i64 x.it.st.k, .int .i64 x.it.st.d, .str x.it.st.e, .int .i64 x.it.a, .int .i64 x.it.i, .int .i64 x.it.d, .str x.it.ev, x.it.b] := rfl
def cmpZ (a b : Int) : Int := if a < b then -1 else if b < a then 1 else 0
def legZ (a b : En) : Int := if cmpZ a.day b.day ≠ 0 then cmpZ a.day b.day else if cmpZ a.act b.act ≠ 0 then cmpZ a.act b.act else cmpZ a.item b.item
theorem nan_pc (x : Int) : PC Try.prog env0 67 [.int .i64 x] [.bool false] := by
 refine PC.of_va (T := tb0) eqs_ok tb_ok rfl mixed Try.func67 rfl rfl (Nat.le_of_ble_eq_true rfl) ?_; intro Γ C WK LP fin h0 hW hC hB hR hLP hfin
 (try (conv => whnf)); (repeat ((first | refine qT ?_ | refine qF ?_ | refine qO ?_ | (with_reducible intro z hz); (first | (replace hz := hz (by omega); subst hz) | subst hz)); (try (conv => whnf))))
 exact hfin _ (ILes.refl _)
theorem cmp_pc (a b : Int) : PC Try.prog env0 43 [.int .i64 a, .int .i64 b] [.int .i64 (cmpZ a b)] := by
 have h1 := nan_pc a
 have h2 := nan_pc b
 unfold cmpZ
 by_cases c1 : a < b
 · rw [if_pos c1]
   refine PC.of_va (T := tb0) eqs_ok tb_ok rfl mixed Try.func43 rfl rfl (Nat.le_of_ble_eq_true rfl) ?_; intro Γ C WK LP fin h0 hW hC hB hR hLP hfin
   (try (conv => whnf)); (repeat ((first | refine qT ?_ | refine qF ?_ | refine qO ?_ | (with_reducible intro z hz); (first | (replace hz := hz (by omega); subst hz) | subst hz) | (refine CallV.mk _ (hC _ _ _ (PCw.of h1)) (fun js hjs => ?_); subst hjs) | (refine CallV.mk _ (hC _ _ _ (PCw.of h2)) (fun js hjs => ?_); subst hjs)); (try (conv => whnf))))
   exact hfin _ (ILes.refl _)
 rw [if_neg c1]
 by_cases c2 : b < a
 · rw [if_pos c2]
   refine PC.of_va (T := tb0) eqs_ok tb_ok rfl mixed Try.func43 rfl rfl (Nat.le_of_ble_eq_true rfl) ?_; intro Γ C WK LP fin h0 hW hC hB hR hLP hfin
   (try (conv => whnf)); (repeat ((first | refine qT ?_ | refine qF ?_ | refine qO ?_ | (with_reducible intro z hz); (first | (replace hz := hz (by omega); subst hz) | subst hz) | (refine CallV.mk _ (hC _ _ _ (PCw.of h1)) (fun js hjs => ?_); subst hjs) | (refine CallV.mk _ (hC _ _ _ (PCw.of h2)) (fun js hjs => ?_); subst hjs)); (try (conv => whnf))))
   exact hfin _ (ILes.refl _)
 · rw [if_neg c2]
   refine PC.of_va (T := tb0) eqs_ok tb_ok rfl mixed Try.func43 rfl rfl (Nat.le_of_ble_eq_true rfl) ?_; intro Γ C WK LP fin h0 hW hC hB hR hLP hfin
   (try (conv => whnf)); (repeat ((first | refine qT ?_ | refine qF ?_ | refine qO ?_ | (with_reducible intro z hz); (first | (replace hz := hz (by omega); subst hz) | subst hz) | (refine CallV.mk _ (hC _ _ _ (PCw.of h1)) (fun js hjs => ?_); subst hjs) | (refine CallV.mk _ (hC _ _ _ (PCw.of h2)) (fun js hjs => ?_); subst hjs)); (try (conv => whnf))))
   exact hfin _ (ILes.refl _)
def orZ (x y z : Int) : Int := if x ≠ 0 then x else if y ≠ 0 then y else z
theorem or_pc (x y z : Int) : PC Try.prog env0 42 [.sl 1 [.int .i64 x, .int .i64 y, .int .i64 z]] [.int .i64 (orZ x y z)] := by
 refine PC.of_va (T := tb0) eqs_ok tb_ok rfl mixed Try.func42 rfl rfl (Nat.le_of_ble_eq_true rfl) ?_; intro Γ C WK LP fin h0 hW hC hB hR hLP hfin
 (try (conv => whnf)); (repeat ((first | refine qT ?_ | refine qF ?_ | refine qO ?_ | (with_reducible intro z hz); (first | (replace hz := hz (by omega); subst hz) | subst hz)); (try (conv => whnf))))
 refine hLP _ _ _ Nat (fun k => ⟨[(3, .imm (.int .i64 0)), (6, .imm (.sl 1 [.int .i64 x, .int .i64 y, .int .i64 z])), (7, .imm (.int .i64 3)), (8, .imm (.int .i64 (k : Nat)))], []⟩) (fun k => k ≤ 3 ∧ (0 < k → x = 0) ∧ (1 < k → y = 0) ∧ (2 < k → z = 0)) (fun k => 3 - k) 0 ⟨by omega, by omega, by omega, by omega⟩ (qSL 0 rfl rfl) ?_
 rintro k ⟨hk, k1, k2, k3⟩
 have hc : k = 0 ∨ k = 1 ∨ k = 2 ∨ k = 3 := by omega
 rcases hc with rfl | rfl | rfl | rfl
 · by_cases hx : x = 0
   · (try (conv => whnf)); (repeat ((first | refine qT ?_ | refine qF ?_ | refine qO ?_ | (with_reducible intro z hz); (first | (replace hz := hz (by omega); subst hz) | subst hz)); (try (conv => whnf))))
     refine Idx.mk 0 (.int .i64 x) _ rfl rfl rfl ?_
     (try (conv => whnf)); (repeat ((first | refine qT ?_ | refine qF ?_ | refine qO ?_ | (with_reducible intro z hz); (first | (replace hz := hz (by omega); subst hz) | subst hz)); (try (conv => whnf))))
     exact ⟨1, ⟨by omega, fun _ => hx, by omega, by omega⟩, by dsimp only; omega, (qSL 0 rfl rfl)⟩
   · rw [orZ, if_pos hx] at hfin
     (try (conv => whnf)); (repeat ((first | refine qT ?_ | refine qF ?_ | refine qO ?_ | (with_reducible intro z hz); (first | (replace hz := hz (by omega); subst hz) | subst hz)); (try (conv => whnf))))
     refine Idx.mk 0 (.int .i64 x) _ rfl rfl rfl ?_
     (try (conv => whnf)); (repeat ((first | refine qT ?_ | refine qF ?_ | refine qO ?_ | (with_reducible intro z hz); (first | (replace hz := hz (by omega); subst hz) | subst hz)); (try (conv => whnf))))
     exact hfin _ (ILes.refl _)
 · have hx := k1 (by omega)
   by_cases hy : y = 0
   · (try (conv => whnf)); (repeat ((first | refine qT ?_ | refine qF ?_ | refine qO ?_ | (with_reducible intro z hz); (first | (replace hz := hz (by omega); subst hz) | subst hz)); (try (conv => whnf))))
     refine Idx.mk 1 (.int .i64 y) _ rfl rfl rfl ?_
     (try (conv => whnf)); (repeat ((first | refine qT ?_ | refine qF ?_ | refine qO ?_ | (with_reducible intro z hz); (first | (replace hz := hz (by omega); subst hz) | subst hz)); (try (conv => whnf))))
     exact ⟨2, ⟨by omega, fun _ => hx, fun _ => hy, by omega⟩, by dsimp only; omega, (qSL 0 rfl rfl)⟩
   · rw [orZ, if_neg (by simpa using hx), if_pos hy] at hfin
     (try (conv => whnf)); (repeat ((first | refine qT ?_ | refine qF ?_ | refine qO ?_ | (with_reducible intro z hz); (first | (replace hz := hz (by omega); subst hz) | subst hz)); (try (conv => whnf))))
     refine Idx.mk 1 (.int .i64 y) _ rfl rfl rfl ?_
     (try (conv => whnf)); (repeat ((first | refine qT ?_ | refine qF ?_ | refine qO ?_ | (with_reducible intro z hz); (first | (replace hz := hz (by omega); subst hz) | subst hz)); (try (conv => whnf))))
     exact hfin _ (ILes.refl _)
 · have hx := k1 (by omega)
   have hy := k2 (by omega)
   by_cases hz : z = 0
   · (try (conv => whnf)); (repeat ((first | refine qT ?_ | refine qF ?_ | refine qO ?_ | (with_reducible intro z hz); (first | (replace hz := hz (by omega); subst hz) | subst hz)); (try (conv => whnf))))
     refine Idx.mk 2 (.int .i64 z) _ rfl rfl rfl ?_
     (try (conv => whnf)); (repeat ((first | refine qT ?_ | refine qF ?_ | refine qO ?_ | (with_reducible intro z hz); (first | (replace hz := hz (by omega); subst hz) | subst hz)); (try (conv => whnf))))
     exact ⟨3, ⟨by omega, fun _ => hx, fun _ => hy, fun _ => hz⟩, by dsimp only; omega, (qSL 0 rfl rfl)⟩
   · rw [orZ, if_neg (by simpa using hx), if_neg (by simpa using hy)] at hfin
     (try (conv => whnf)); (repeat ((first | refine qT ?_ | refine qF ?_ | refine qO ?_ | (with_reducible intro z hz); (first | (replace hz := hz (by omega); subst hz) | subst hz)); (try (conv => whnf))))
     refine Idx.mk 2 (.int .i64 z) _ rfl rfl rfl ?_
     (try (conv => whnf)); (repeat ((first | refine qT ?_ | refine qF ?_ | refine qO ?_ | (with_reducible intro z hz); (first | (replace hz := hz (by omega); subst hz) | subst hz)); (try (conv => whnf))))
     exact hfin _ (ILes.refl _)
 · have hx := k1 (by omega)
   have hy := k2 (by omega)
   have hz := k3 (by omega)
   rw [orZ, if_neg (by simpa using hx), if_neg (by simpa using hy), hz] at hfin
   (try (conv => whnf)); (repeat ((first | refine qT ?_ | refine qF ?_ | refine qO ?_ | (with_reducible intro z hz); (first | (replace hz := hz (by omega); subst hz) | subst hz)); (try (conv => whnf))))
   exact hfin _ (ILes.refl _)
theorem compare_pc (a b : En) : PC Try.prog env0 22 [env1 a, env1 b] [.int .i64 (legZ a b)] := by
 have h1 := cmp_pc a.day b.day
 have h2 := cmp_pc a.act b.act
 have h3 := cmp_pc a.item b.item
 have h4 := or_pc (cmpZ a.day b.day) (cmpZ a.act b.act) (cmpZ a.item b.item)
 have he : orZ (cmpZ a.day b.day) (cmpZ a.act b.act) (cmpZ a.item b.item) = legZ a b := rfl
 rw [he] at h4
 clear he
 generalize legZ a b = r at *
 generalize cmpZ a.day b.day = x at *
 generalize cmpZ a.act b.act = y at *
 generalize cmpZ a.item b.item = z at *
 rw [env_eq a, env_eq b]
 refine PC.of_va (T := tb0) eqs_ok tb_ok rfl mixed Try.func22 rfl rfl (Nat.le_of_ble_eq_true rfl) ?_; intro Γ C WK LP fin h0 hW hC hB hR hLP hfin
 (try (conv => whnf)); (repeat ((first | refine qT ?_ | refine qF ?_ | refine qO ?_ | (with_reducible intro z hz); (first | (replace hz := hz (by omega); subst hz) | subst hz) | (refine CallV.mk _ (hC _ _ _ (PCw.of h1)) (fun js hjs => ?_); subst hjs) | (refine CallV.mk _ (hC _ _ _ (PCw.of h2)) (fun js hjs => ?_); subst hjs) | (refine CallV.mk _ (hC _ _ _ (PCw.of h3)) (fun js hjs => ?_); subst hjs)); (try (conv => whnf))))
 refine Imms.mk [.int .i64 x, .int .i64 y, .int .i64 z] rfl ?_
 (try (conv => whnf)); (repeat ((first | refine qT ?_ | refine qF ?_ | refine qO ?_ | (with_reducible intro z hz); (first | (replace hz := hz (by omega); subst hz) | subst hz) | (refine CallV.mk _ (hC _ _ _ (PCw.of h4)) (fun js hjs => ?_); subst hjs)); (try (conv => whnf))))
 exact hfin _ (ILes.refl _)
end Go.Proofs.Ytopnkadjoklofaa.Po
