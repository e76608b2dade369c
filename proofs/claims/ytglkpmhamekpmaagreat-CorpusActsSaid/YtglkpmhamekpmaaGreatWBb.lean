/-
  Corpus: enacted items as plain values, as they come in; legal order, by the program and by the reference; the law of it.
-/
import Derived.Test.YtglkpmhamekpmaaGreatWBa
namespace Go.Proofs.YtglkpmhamekpmaaGreat.Po
open Go Go.Pv Go.RowKit
set_option linter.unusedSimpArgs false
set_option maxRecDepth 10000
set_option maxHeartbeats 16000000
structure St where
 k : Int
 d : Int
 e : ByteArray
structure Im where
 kind : Int
 m : Nat → IV
 st : St
 a : Int
 i : Int
 d : Int
 ev : ByteArray
 b : IV
structure En where
 act : Int
 item : Int
 day : Int
 it : Im
def env1 (x : En) : IV := .agg [.int .i64 x.act, .int .i64 x.item, .int .i64 x.day, .int .i64 x.it.kind, x.it.m 1, x.it.m 2, x.it.m 3, x.it.m 4, x.it.m 5, x.it.m 6, x.it.m 7, x.it.m 8, x.it.m 9, x.it.m 10, x.it.m 11, x.it.m 12, x.it.m 13, x.it.m 14, x.it.m 15, x.it.m 16, .int .i64 x.it.st.k, .int .i64 x.it.st.d, .str x.it.st.e, .int .i64 x.it.a, .int .i64 x.it.i, .int .i64 x.it.d, .str x.it.ev, x.it.b]
def FitS (x : St) : Prop := x.e.size ≤ maxLen
theorem start_of {is : List IV} (h : OkC Tryz.prog 29 is) : ∃ x : St, is = [.int .i64 x.k, .int .i64 x.d, .str x.e] ∧ FitS x := by
 obtain ⟨parts, rfl, hl, hp⟩ := h.strct_inv Tryz.underlying29
 match parts, hl with
 | [p0, p1, p2], _ =>
   obtain ⟨k, rfl, _⟩ := (hp 0 _ _ rfl rfl).int_inv Tryz.underlying3
   obtain ⟨d, rfl, _⟩ := (hp 1 _ _ rfl rfl).int_inv Tryz.underlying3
   obtain ⟨e, rfl, h0⟩ := (hp 2 _ _ rfl rfl).str_inv Tryz.underlying9
   exact ⟨⟨k, d, e⟩, rfl, h0⟩
section
variable {H : Type} {enc : TypeId × Value → H} {w : World} {bs : Nat} {spare : Nat → Bool} {held : Bool}
end
theorem env_eq (x : En) : env1 x = .agg [.int .i64 x.act, .int .i64 x.item, .int .i64 x.day, .int .i64 x.it.kind, x.it.m 1, x.it.m 2, x.it.m 3, x.it.m 4, x.it.m 5, x.it.m 6, x.it.m 7, x.it.m 8, x.it.m 9, x.it.m 10, x.it.m 11, x.it.m 12, x.it.m 13, x.it.m 14, x.it.m 15, x.it.m 16, .int .i64 x.it.st.k, .int .i64 x.it.st.d, .str x.it.st.e, .int .i64 x.it.a, .int .i64 x.it.i, .int .i64 x.it.d, .str x.it.ev, x.it.b] := rfl
def cmpZ (a b : Int) : Int := if a < b then -1 else if b < a then 1 else 0
def legZ (a b : En) : Int := if cmpZ a.day b.day ≠ 0 then cmpZ a.day b.day else if cmpZ a.act b.act ≠ 0 then cmpZ a.act b.act else cmpZ a.item b.item
theorem nan_pc (x : Int) : PC Tryz.prog env0 124 [.int .i64 x] [.bool false] := by
 refine PC.of_va (T := tb0) eqs_ok tb_ok rfl mixed Tryz.func124 rfl rfl (Nat.le_of_ble_eq_true rfl) ?_; intro Γ C WK LP fin h0 hW hC hB hR hLP hfin
 (try (conv => whnf)); (repeat ((first | refine qT ?_ | refine qF ?_ | refine qO ?_ | (with_reducible intro z hz); (first | (replace hz := hz (by omega); subst hz) | subst hz)); (try (conv => whnf))))
 exact hfin _ (ILes.refl _)
theorem cmp_pc (a b : Int) : PC Tryz.prog env0 87 [.int .i64 a, .int .i64 b] [.int .i64 (cmpZ a b)] := by
 have h1 := nan_pc a
 have h2 := nan_pc b
 unfold cmpZ
 by_cases c1 : a < b
 · rw [if_pos c1]
   refine PC.of_va (T := tb0) eqs_ok tb_ok rfl mixed Tryz.func87 rfl rfl (Nat.le_of_ble_eq_true rfl) ?_; intro Γ C WK LP fin h0 hW hC hB hR hLP hfin
   (try (conv => whnf)); (repeat ((first | refine qT ?_ | refine qF ?_ | refine qO ?_ | (with_reducible intro z hz); (first | (replace hz := hz (by omega); subst hz) | subst hz) | (refine CallV.mk _ (hC _ _ _ (PCw.of h1)) (fun js hjs => ?_); subst hjs) | (refine CallV.mk _ (hC _ _ _ (PCw.of h2)) (fun js hjs => ?_); subst hjs)); (try (conv => whnf))))
   exact hfin _ (ILes.refl _)
 rw [if_neg c1]
 by_cases c2 : b < a
 · rw [if_pos c2]
   refine PC.of_va (T := tb0) eqs_ok tb_ok rfl mixed Tryz.func87 rfl rfl (Nat.le_of_ble_eq_true rfl) ?_; intro Γ C WK LP fin h0 hW hC hB hR hLP hfin
   (try (conv => whnf)); (repeat ((first | refine qT ?_ | refine qF ?_ | refine qO ?_ | (with_reducible intro z hz); (first | (replace hz := hz (by omega); subst hz) | subst hz) | (refine CallV.mk _ (hC _ _ _ (PCw.of h1)) (fun js hjs => ?_); subst hjs) | (refine CallV.mk _ (hC _ _ _ (PCw.of h2)) (fun js hjs => ?_); subst hjs)); (try (conv => whnf))))
   exact hfin _ (ILes.refl _)
 · rw [if_neg c2]
   refine PC.of_va (T := tb0) eqs_ok tb_ok rfl mixed Tryz.func87 rfl rfl (Nat.le_of_ble_eq_true rfl) ?_; intro Γ C WK LP fin h0 hW hC hB hR hLP hfin
   (try (conv => whnf)); (repeat ((first | refine qT ?_ | refine qF ?_ | refine qO ?_ | (with_reducible intro z hz); (first | (replace hz := hz (by omega); subst hz) | subst hz) | (refine CallV.mk _ (hC _ _ _ (PCw.of h1)) (fun js hjs => ?_); subst hjs) | (refine CallV.mk _ (hC _ _ _ (PCw.of h2)) (fun js hjs => ?_); subst hjs)); (try (conv => whnf))))
   exact hfin _ (ILes.refl _)
def orZ (x y z : Int) : Int := if x ≠ 0 then x else if y ≠ 0 then y else z
theorem or_pc (x y z : Int) : PC Tryz.prog env0 86 [.sl 1 [.int .i64 x, .int .i64 y, .int .i64 z]] [.int .i64 (orZ x y z)] := by
 refine PC.of_va (T := tb0) eqs_ok tb_ok rfl mixed Tryz.func86 rfl rfl (Nat.le_of_ble_eq_true rfl) ?_; intro Γ C WK LP fin h0 hW hC hB hR hLP hfin
 (try (conv => whnf)); (repeat ((first | refine qT ?_ | refine qF ?_ | refine qO ?_ | (with_reducible intro z hz); (first | (replace hz := hz (by omega); subst hz) | subst hz)); (try (conv => whnf))))
 refine hLP _ _ _ Nat (fun k => ⟨[(3, .imm (.int .i64 0)), (6, .imm (.sl 1 [.int .i64 x, .int .i64 y, .int .i64 z])), (7, .imm (.int .i64 3)), (8, .imm (.int .i64 (k : Nat)))], []⟩) (fun k => k ≤ 3 ∧ (0 < k → x = 0) ∧ (1 < k → y = 0) ∧ (2 < k → z = 0)) (fun k => 3 - k) 0 ⟨by omega, by omega, by omega, by omega⟩ (qSL 0 rfl rfl) ?_
 rintro k ⟨hk, k1, k2, k3⟩
 have hc : k = 0 ∨ k = 1 ∨ k = 2 ∨ k = 3 := by omega
 rcases hc with rfl | rfl | rfl | rfl
 · by_cases hx : x = 0
   · (try (conv => whnf)); (repeat ((first | refine qT ?_ | refine qF ?_ | refine qO ?_ | (with_reducible intro z hz); (first | (replace hz := hz (by omega); subst hz) | subst hz)); (try (conv => whnf))))
     refine Idx.mk 0 (.int .i64 x) _ rfl rfl rfl ?_
     (try (conv => whnf)); (repeat ((first | refine qT ?_ | refine qF ?_ | refine qO ?_ | (with_reducible intro z hz); (first | (replace hz := hz (by omega); subst hz) | subst hz)); (try (conv => whnf))))
     exact ⟨1, ⟨by omega, fun _ => hx, by omega, by omega⟩, by dsimp only; omega, (qSL 0 rfl rfl)⟩
   · rw [orZ, if_pos hx] at hfin
     (try (conv => whnf)); (repeat ((first | refine qT ?_ | refine qF ?_ | refine qO ?_ | (with_reducible intro z hz); (first | (replace hz := hz (by omega); subst hz) | subst hz)); (try (conv => whnf))))
     refine Idx.mk 0 (.int .i64 x) _ rfl rfl rfl ?_
     (try (conv => whnf)); (repeat ((first | refine qT ?_ | refine qF ?_ | refine qO ?_ | (with_reducible intro z hz); (first | (replace hz := hz (by omega); subst hz) | subst hz)); (try (conv => whnf))))
     exact hfin _ (ILes.refl _)
 · have hx := k1 (by omega)
   by_cases hy : y = 0
   · (try (conv => whnf)); (repeat ((first | refine qT ?_ | refine qF ?_ | refine qO ?_ | (with_reducible intro z hz); (first | (replace hz := hz (by omega); subst hz) | subst hz)); (try (conv => whnf))))
     refine Idx.mk 1 (.int .i64 y) _ rfl rfl rfl ?_
     (try (conv => whnf)); (repeat ((first | refine qT ?_ | refine qF ?_ | refine qO ?_ | (with_reducible intro z hz); (first | (replace hz := hz (by omega); subst hz) | subst hz)); (try (conv => whnf))))
     exact ⟨2, ⟨by omega, fun _ => hx, fun _ => hy, by omega⟩, by dsimp only; omega, (qSL 0 rfl rfl)⟩
   · rw [orZ, if_neg (by simpa using hx), if_pos hy] at hfin
     (try (conv => whnf)); (repeat ((first | refine qT ?_ | refine qF ?_ | refine qO ?_ | (with_reducible intro z hz); (first | (replace hz := hz (by omega); subst hz) | subst hz)); (try (conv => whnf))))
     refine Idx.mk 1 (.int .i64 y) _ rfl rfl rfl ?_
     (try (conv => whnf)); (repeat ((first | refine qT ?_ | refine qF ?_ | refine qO ?_ | (with_reducible intro z hz); (first | (replace hz := hz (by omega); subst hz) | subst hz)); (try (conv => whnf))))
     exact hfin _ (ILes.refl _)
 · have hx := k1 (by omega)
   have hy := k2 (by omega)
   by_cases hz : z = 0
   · (try (conv => whnf)); (repeat ((first | refine qT ?_ | refine qF ?_ | refine qO ?_ | (with_reducible intro z hz); (first | (replace hz := hz (by omega); subst hz) | subst hz)); (try (conv => whnf))))
     refine Idx.mk 2 (.int .i64 z) _ rfl rfl rfl ?_
     (try (conv => whnf)); (repeat ((first | refine qT ?_ | refine qF ?_ | refine qO ?_ | (with_reducible intro z hz); (first | (replace hz := hz (by omega); subst hz) | subst hz)); (try (conv => whnf))))
     exact ⟨3, ⟨by omega, fun _ => hx, fun _ => hy, fun _ => hz⟩, by dsimp only; omega, (qSL 0 rfl rfl)⟩
   · rw [orZ, if_neg (by simpa using hx), if_neg (by simpa using hy)] at hfin
     (try (conv => whnf)); (repeat ((first | refine qT ?_ | refine qF ?_ | refine qO ?_ | (with_reducible intro z hz); (first | (replace hz := hz (by omega); subst hz) | subst hz)); (try (conv => whnf))))
     refine Idx.mk 2 (.int .i64 z) _ rfl rfl rfl ?_
     (try (conv => whnf)); (repeat ((first | refine qT ?_ | refine qF ?_ | refine qO ?_ | (with_reducible intro z hz); (first | (replace hz := hz (by omega); subst hz) | subst hz)); (try (conv => whnf))))
     exact hfin _ (ILes.refl _)
 · have hx := k1 (by omega)
   have hy := k2 (by omega)
   have hz := k3 (by omega)
   rw [orZ, if_neg (by simpa using hx), if_neg (by simpa using hy), hz] at hfin
   (try (conv => whnf)); (repeat ((first | refine qT ?_ | refine qF ?_ | refine qO ?_ | (with_reducible intro z hz); (first | (replace hz := hz (by omega); subst hz) | subst hz)); (try (conv => whnf))))
   exact hfin _ (ILes.refl _)
theorem compare_pc (a b : En) : PC Tryz.prog env0 48 [env1 a, env1 b] [.int .i64 (legZ a b)] := by
 have h1 := cmp_pc a.day b.day
 have h2 := cmp_pc a.act b.act
 have h3 := cmp_pc a.item b.item
 have h4 := or_pc (cmpZ a.day b.day) (cmpZ a.act b.act) (cmpZ a.item b.item)
 have he : orZ (cmpZ a.day b.day) (cmpZ a.act b.act) (cmpZ a.item b.item) = legZ a b := rfl
 rw [he] at h4
 clear he
 generalize legZ a b = r at *
 generalize cmpZ a.day b.day = x at *
 generalize cmpZ a.act b.act = y at *
 generalize cmpZ a.item b.item = z at *
 rw [env_eq a, env_eq b]
 refine PC.of_va (T := tb0) eqs_ok tb_ok rfl mixed Tryz.func48 rfl rfl (Nat.le_of_ble_eq_true rfl) ?_; intro Γ C WK LP fin h0 hW hC hB hR hLP hfin
 (try (conv => whnf)); (repeat ((first | refine qT ?_ | refine qF ?_ | refine qO ?_ | (with_reducible intro z hz); (first | (replace hz := hz (by omega); subst hz) | subst hz) | (refine CallV.mk _ (hC _ _ _ (PCw.of h1)) (fun js hjs => ?_); subst hjs) | (refine CallV.mk _ (hC _ _ _ (PCw.of h2)) (fun js hjs => ?_); subst hjs) | (refine CallV.mk _ (hC _ _ _ (PCw.of h3)) (fun js hjs => ?_); subst hjs)); (try (conv => whnf))))
 refine Imms.mk [.int .i64 x, .int .i64 y, .int .i64 z] rfl ?_
 (try (conv => whnf)); (repeat ((first | refine qT ?_ | refine qF ?_ | refine qO ?_ | (with_reducible intro z hz); (first | (replace hz := hz (by omega); subst hz) | subst hz) | (refine CallV.mk _ (hC _ _ _ (PCw.of h4)) (fun js hjs => ?_); subst hjs)); (try (conv => whnf))))
 exact hfin _ (ILes.refl _)
end Go.Proofs.YtglkpmhamekpmaaGreat.Po
