/-
  The reference's Wide, Text.
-/
import Derived.Test.YtaciihgejkhlnaaWCg
namespace Go.Proofs.Ytaciihgejkhlnaa.Pb
open Go Go.Pv Go.RowKit
set_option linter.unusedSimpArgs false
open Lab Lcs Go.Proofs.Ytaciihgejkhlnaa Go.Proofs.Ytaciihgejkhlnaa.Pu Go.Proofs.Ytaciihgejkhlnaa.Pt
set_option maxRecDepth 10000
set_option maxHeartbeats 8000000
def widesV (t : Ut) : List Nat := if validT t = true then wides t else []
def linesV (t : Ut) : List Str := if validT t = true then linesS t else []
theorem colC_of {t : Ut} {j : Nat} (hv : validT t = true) (hj : j < colsN t) : colC t (j : Int) = colL t j := by
 have hb : hasB t 0 (j : Int) = true := by
   unfold hasB rowsV colsV
   rw [if_pos hv, if_pos hv]
   obtain ⟨_, _, _, h0⟩ := valid_some hv
   simp only [Bool.and_eq_true, decide_eq_true_eq]
   omega
 unfold colC
 rw [if_pos hb, Int.toNat_natCast]
theorem cols_le {t : Ut} (h : Smal t) (hv : validT t = true) : colsN t ≤ 60 := by
 obtain ⟨r, hr, hc, _⟩ := valid_some hv
 rw [hc]
 exact (h.kid (List.mem_of_getElem? hr)).kids
theorem rwide_pc (t : Ut) (h : Smal t) : PC Try.prog env0 20 [uv t] [.sl 1 (zv (widesV t))] := by
 have hZ := rsize_pc t h
 have hte := uv_eq t
 unfold widesV
 unfold rowsV colsV at hZ
 by_cases hv : validT t = true
 rotate_left
 · rw [if_neg hv, if_neg hv] at hZ
   rw [if_neg hv]
   rw [hte] at hZ ⊢
   refine PC.of_va (T := tb0) eqs_ok tb_ok rfl mixed Try.func20 rfl rfl (Nat.le_of_ble_eq_true rfl) ?_; intro Γ C WK LP fin h0 hW hC hB hR hLP hfin
   (try (conv => whnf)); (repeat ((first | refine qT ?_ | refine qF ?_ | refine qO ?_ | (with_reducible intro z hz); (first | (replace hz := hz (by omega); subst hz) | subst hz) | (refine CallV.mk _ (hC _ _ _ (PCw.of hZ)) (fun js hjs => ?_); subst hjs)); (try (conv => whnf))))
   refine hLP _ _ _ Unit (fun _ => ⟨[(3, .row 1 1), (5, .imm (.int .i64 0)), (6, .imm (.int .i64 0))], [.box 1 [.imm (.int .i64 t.id.x), .imm (.int .i64 t.id.y), .imm (.int .i64 t.id.z), .imm (.int .i64 t.kind), .imm (.str t.label), .imm (.sl 4 (t.head.map wdv)), .imm (.sl 4 (t.words.map wdv)), .imm (.sl 8 (t.kids.map uv))], .row 3 1 1 []]⟩) (fun _ => True) (fun _ => 0) () trivial (qSL 2 rfl rfl) ?_
   rintro _ _
   (try (conv => whnf)); (repeat ((first | refine qT ?_ | refine qF ?_ | refine qO ?_ | (with_reducible intro z hz); (first | (replace hz := hz (by omega); subst hz) | subst hz)); (try (conv => whnf))))
   refine Imms.mk [] rfl ?_
   exact hfin _ (ILes.refl _)
 have hcl := cols_le h hv
 have hkl := h.kids
 rw [if_pos hv, if_pos hv] at hZ
 rw [if_pos hv]
 have hCs : ∀ j, j < colsN t → PC Try.prog env0 22 [uv t, .int .i64 (j : Nat)] [.sl 1 (sv (colL t j))] := fun j hj => by
   have := rcol_pc t h j
   rw [colC_of hv hj] at this
   exact this
 have hsz : ∀ j, ∀ s ∈ colL t j, s.size ≤ 30300 := fun j s hs => by
   unfold colL at hs
   obtain ⟨r, hr, rfl⟩ := List.mem_map.1 hs
   exact (cell_short h hr _).say
 have hw : wides t = (List.range (colsN t)).map fun c => maxL (colL t c) := rfl
 rw [hw]
 generalize colsN t = m at hZ hCs hcl ⊢
 generalize t.kids.length = rows at hZ
 rw [hte] at hZ ⊢
 refine PC.of_va (T := tb0) eqs_ok tb_ok rfl mixed Try.func20 rfl rfl (Nat.le_of_ble_eq_true rfl) ?_; intro Γ C WK LP fin h0 hW hC hB hR hLP hfin
 (try (conv => whnf)); (repeat ((first | refine qT ?_ | refine qF ?_ | refine qO ?_ | (with_reducible intro z hz); (first | (replace hz := hz (by omega); subst hz) | subst hz) | (refine CallV.mk _ (hC _ _ _ (PCw.of hZ)) (fun js hjs => ?_); subst hjs)); (try (conv => whnf))))
 refine hLP _ _ _ Nat (fun k => ⟨[(1, .ptr 0 1 0), (3, .row 1 1), (5, .imm (.int .i64 (m : Nat))), (6, .imm (.int .i64 (k : Nat)))], [.box 1 [.imm (.int .i64 t.id.x), .imm (.int .i64 t.id.y), .imm (.int .i64 t.id.z), .imm (.int .i64 t.kind), .imm (.str t.label), .imm (.sl 4 (t.head.map wdv)), .imm (.sl 4 (t.words.map wdv)), .imm (.sl 8 (t.kids.map uv))], .row 3 1 1 ((zv ((List.range k).map fun c => maxL (colL t c))).map .imm)]⟩) (fun k => k ≤ m) (fun k => m - k) 0 (Nat.zero_le _) (((WeakA.row 1 (((zv ((List.range 0).map fun c => maxL (colL t c))).map .imm)) rfl (by simp [zv]))).trans (qSL 2 rfl rfl)) ?_
 intro k hk
 have hho := Nat.lt_or_ge k m
 cases hho with
 | inl hlt =>
   have hCk := hCs k hlt
   rw [hte] at hCk
   have hRl : ((zv ((List.range k).map fun c => maxL (colL t c))).map PV.imm).length ≤ k := by unfold zv; simp
   have hOw : ((zv ((List.range k).map fun c => maxL (colL t c))).map PV.imm).length + 1 ≤ most := by unfold most; omega
   have hRl2 := hRl
   rw [List.length_map] at hRl2
   have hzk := hsz k
   generalize hL : colL t k = L at hCk hzk
   have hml : (sv L).length = L.length := List.length_map _
   have hlen : L.length ≤ 60 := by rw [← hL]; unfold colL; rw [List.length_map]; exact hkl
   (try (conv => whnf)); (repeat ((first | refine qT ?_ | refine qF ?_ | refine qO ?_ | (with_reducible intro z hz); (first | (replace hz := hz (by omega); subst hz) | subst hz) | (refine CallV.mk _ (hC _ _ _ (PCw.of hCk)) (fun js hjs => ?_); subst hjs)); (try (conv => whnf))))
   refine hLP _ _ _ Nat (fun i => ⟨[(1, .ptr 0 1 0), (3, .row 1 1), (5, .imm (.int .i64 (m : Nat))), (6, .imm (.int .i64 (k : Nat))), (7, .imm (.int .i64 (maxL (L.take i) : Nat))), (8, .imm (.sl 1 (sv L))), (9, .imm (.int .i64 (i : Nat)))], [.box 1 [.imm (.int .i64 t.id.x), .imm (.int .i64 t.id.y), .imm (.int .i64 t.id.z), .imm (.int .i64 t.kind), .imm (.str t.label), .imm (.sl 4 (t.head.map wdv)), .imm (.sl 4 (t.words.map wdv)), .imm (.sl 8 (t.kids.map uv))], .row 3 1 1 ((zv ((List.range k).map fun c => maxL (colL t c))).map .imm)]⟩) (fun i => i ≤ L.length) (fun i => L.length - i) 0 (Nat.zero_le _) (qSL 2 rfl rfl (hE := by (repeat ((conv => whnf); first | exact trivial | refine And.intro (by first | exact WkOne.any | exact WkOne.eq (by with_reducible rfl) rfl | exact WkOne.eq (congrArg (fun z => PV.imm (IV.int IntKind.i64 z)) (by first | omega | (simp [maxL, List.take_zero]; done) | (simp [maxL, List.take_zero]; omega))) rfl | exact WkOne.eq (by first | (simp [maxL, List.take_zero]; done) | fail) rfl | exact WkOne.eq rfl rfl | exact WkOne.le rfl (ILe.nil _)) ?_)))) ?_
   intro i hi
   have hho := Nat.lt_or_ge i L.length
   cases hho with
   | inl hil =>
     obtain ⟨s, hs⟩ : ∃ s, L[i]? = some s := ⟨L[i], List.getElem?_eq_getElem hil⟩
     have hss := hzk s (List.mem_of_getElem? hs)
     have hmx : maxL (L.take (i + 1)) = max (maxL (L.take i)) s.size := by rw [take_at hs, maxL_snoc]
     have hmz : maxL (L.take i) ≤ 30300 := maxL_le fun x hx => hzk x (List.mem_of_mem_take hx)
     by_cases hb : maxL (L.take i) < s.size
     · have hq : maxL (L.take (i + 1)) = s.size := by rw [hmx]; omega
       clear hmx
       (try (conv => whnf)); (repeat ((first | refine qT ?_ | refine qF ?_ | refine qO ?_ | (with_reducible intro z hz); (first | (replace hz := hz (by omega); subst hz) | subst hz)); (try (conv => whnf))))
       refine Idx.mk i (.str s) _ rfl (by simp [sv, hs]) rfl ?_
       (try (conv => whnf)); (repeat ((first | refine qT ?_ | refine qF ?_ | refine qO ?_ | (with_reducible intro z hz); (first | (replace hz := hz (by omega); subst hz) | subst hz)); (try (conv => whnf))))
       refine Idx.mk i (.str s) _ rfl (by simp [sv, hs]) rfl ?_
       (try (conv => whnf)); (repeat ((first | refine qT ?_ | refine qF ?_ | refine qO ?_ | (with_reducible intro z hz); (first | (replace hz := hz (by omega); subst hz) | subst hz)); (try (conv => whnf))))
       exact ⟨i + 1, by omega, by dsimp only; omega, (qSL 2 rfl rfl (hE := by (repeat ((conv => whnf); first | exact trivial | refine And.intro (by first | exact WkOne.any | exact WkOne.eq (by with_reducible rfl) rfl | exact WkOne.eq (congrArg (fun z => PV.imm (IV.int IntKind.i64 z)) (by first | omega | (simp [hq]; done) | (simp [hq]; omega))) rfl | exact WkOne.eq (by first | (simp [hq]; done) | fail) rfl | exact WkOne.eq rfl rfl | exact WkOne.le rfl (ILe.nil _)) ?_))))⟩
     · have hq : maxL (L.take (i + 1)) = maxL (L.take i) := by rw [hmx]; omega
       clear hmx
       (try (conv => whnf)); (repeat ((first | refine qT ?_ | refine qF ?_ | refine qO ?_ | (with_reducible intro z hz); (first | (replace hz := hz (by omega); subst hz) | subst hz)); (try (conv => whnf))))
       refine Idx.mk i (.str s) _ rfl (by simp [sv, hs]) rfl ?_
       (try (conv => whnf)); (repeat ((first | refine qT ?_ | refine qF ?_ | refine qO ?_ | (with_reducible intro z hz); (first | (replace hz := hz (by omega); subst hz) | subst hz)); (try (conv => whnf))))
       exact ⟨i + 1, by omega, by dsimp only; omega, (qSL 2 rfl rfl (hE := by (repeat ((conv => whnf); first | exact trivial | refine And.intro (by first | exact WkOne.any | exact WkOne.eq (by with_reducible rfl) rfl | exact WkOne.eq (congrArg (fun z => PV.imm (IV.int IntKind.i64 z)) (by first | omega | (simp [hq]; done) | (simp [hq]; omega))) rfl | exact WkOne.eq (by first | (simp [hq]; done) | fail) rfl | exact WkOne.eq rfl rfl | exact WkOne.le rfl (ILe.nil _)) ?_))))⟩
   | inr hig =>
     obtain rfl : i = L.length := by omega
     (try (conv => whnf)); (repeat ((first | refine qT ?_ | refine qF ?_ | refine qO ?_ | (with_reducible intro z hz); (first | (replace hz := hz (by omega); subst hz) | subst hz)); (try (conv => whnf))))
     exact ⟨k + 1, by omega, by dsimp only; omega, ((WeakA.row 1 (((zv ((List.range (k + 1)).map fun c => maxL (colL t c))).map .imm)) rfl (by rw [List.range_succ]; simp [zv, hL]))).trans ((WeakA.renew 1 1 rfl (by first | omega | (intro _; rw [hk0 _ _ rfl]; exact Nat.le_of_ble_eq_true rfl)) (by repeat (first | exact trivial | refine And.intro (rgL_imms _ _ _ _) ?_ | refine And.intro rfl ?_))).trans (qSL 2 rfl rfl))⟩
 | inr hge =>
   obtain rfl : k = m := by omega
   (try (conv => whnf)); (repeat ((first | refine qT ?_ | refine qF ?_ | refine qO ?_ | (with_reducible intro z hz); (first | (replace hz := hz (by omega); subst hz) | subst hz)); (try (conv => whnf))))
   refine Imms.mk (zv ((List.range k).map fun c => maxL (colL t c))) rfl ?_
   exact hfin _ (ILes.refl _)
def cellsS (ws : List Nat) (r : Ut) (k : Nat) : List Str := (List.range k).map (cellS ws r)
theorem cellsS_succ (ws : List Nat) (r : Ut) (k : Nat) : cellsS ws r (k + 1) = cellsS ws r k ++ [cellS ws r k] := by unfold cellsS; rw [List.range_succ, List.map_append]; rfl
theorem cellsS_ne {ws : List Nat} {r : Ut} {k : Nat} (h : k ≠ 0) : cellsS ws r k ≠ [] := fun e => by
 have := congrArg List.length e
 unfold cellsS at this
 rw [List.length_map, List.length_range] at this
 exact h this
theorem cellS_size {ws : List Nat} {r : Ut} {k : Nat} (hs : (say (cellW r k)).size ≤ 30300) (hw : ws.getD k 0 ≤ 30300) : (cellS ws r k).size ≤ 30300 := by
 unfold cellS
 split
 · rw [pad_size]; omega
 · exact hs
theorem cellsS_size {ws : List Nat} {r : Ut} {k : Nat} (hk : k ≤ 60) (hs : ∀ j, (say (cellW r j)).size ≤ 30300) (hw : ∀ j, ws.getD j 0 ≤ 30300) : (joinS bar (cellsS ws r k)).size ≤ 1818180 := by
 have h1 := joinS_size bar 30300 (cellsS ws r k) (fun x hx => by
   unfold cellsS at hx
   obtain ⟨j, _, rfl⟩ := List.mem_map.1 hx
   exact cellS_size (hs j) (hw j))
 have h2 : (cellsS ws r k).length = k := by unfold cellsS; rw [List.length_map, List.length_range]
 have h3 : bar.size = 3 := rfl
 rw [h2, h3] at h1
 have : (30300 + 3) * k ≤ (30300 + 3) * 60 := Nat.mul_le_mul_left _ hk
 omega
theorem wides_len (t : Ut) : (wides t).length = colsN t := by unfold wides; rw [List.length_map, List.length_range]
theorem wides_at {t : Ut} {k : Nat} (hk : k < colsN t) : (wides t)[k]? = some (maxL (colL t k)) := by
 unfold wides
 rw [List.getElem?_map, List.getElem?_range hk]
 rfl
theorem wides_le {t : Ut} (h : Smal t) (k : Nat) : (wides t).getD k 0 ≤ 30300 := by
 rw [List.getD_eq_getElem?_getD]
 cases hk : (wides t)[k]? with
 | none => exact Nat.zero_le _
 | some w =>
   unfold wides at hk
   rw [List.getElem?_map] at hk
   cases hr : (List.range (colsN t))[k]? with
   | none => rw [hr] at hk; cases hk
   | some j =>
     rw [hr] at hk
     have : w = maxL (colL t j) := (Option.some.inj hk).symm
     subst this
     refine maxL_le fun s hs => ?_
     unfold colL at hs
     obtain ⟨r, hr, rfl⟩ := List.mem_map.1 hs
     exact (cell_short h hr _).say
end Go.Proofs.Ytaciihgejkhlnaa.Pb
