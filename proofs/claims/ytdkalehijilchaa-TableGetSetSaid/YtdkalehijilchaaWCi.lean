/-
  The program's texts: text, Column, ColumnWidths, line, Format.
-/
import Derived.Test.YtdkalehijilchaaWCh
import Derived.Test.YtdkalehijilchaaShelf
namespace Go.Proofs.Ytdkalehijilchaa.Pb
open Go Go.Pv Go.RowKit
set_option linter.unusedSimpArgs false
open Lab Lcs Go.Proofs.Ytdkalehijilchaa Go.Proofs.Ytdkalehijilchaa.Pu Go.Proofs.Ytdkalehijilchaa.Pt
set_option maxRecDepth 10000
set_option maxHeartbeats 16000000
theorem lift_str {f : FuncId} {X : Env} {args : List IV} {b : ByteArray} (he : ∀ xs w, (callFunc f xs).run Try.prog w = .ok (.enter f xs) w)
   (h : ∀ (Q : Nat → Prop) (w : World) (vs : List Value), (∀ b, Q b → b < w.heap.size) → RepIs Q w args vs → Calls Try.prog f vs.toArray w fun e w' => e = .returned (.string b) ∧ Below w.heap.size w w') : PC Try.prog X f args [.str b] := by
 refine ⟨he, fun Q w vs hQ _ _ hvs => (h Q w vs hQ hvs).mono ?_⟩
 rintro e w' ⟨rfl, hb⟩
 exact ⟨_, Q, rfl, hb, fun b h => h, fun b h => ⟨Or.inl h, Nat.lt_of_lt_of_le (hQ b h) hb.size⟩, by unfold RepRes RepI; rfl⟩
theorem strs_cells {Q : Nat → Prop} {w : World} {b : Nat} : ∀ {L : List Str} {off : Nat}, RepR Q w 1 b off (sv L) → ∀ (j : Nat) x, L[j]? = some x → w.cell? ⟨b, off + j, none⟩ = some (.string x)
 | [], _, _, j, x, hx => by simp at hx
 | a :: L, off, h, j, x, hx => by
   unfold sv at h
   rw [List.map_cons] at h
   unfold RepR at h
   obtain ⟨⟨v, h1, _, h3⟩, h4⟩ := h
   cases j with
   | zero =>
     unfold RepI at h1
     subst h1
     simp only [List.getElem?_cons_zero, Option.some.injEq] at hx
     subst hx
     exact h3 0 _ rfl
   | succ j =>
     rw [List.getElem?_cons_succ] at hx
     have := strs_cells (L := L) h4 j x hx
     rwa [show off + 1 + j = off + (j + 1) by omega] at this
theorem join_pc (sep : Str) (L : List Str) (hn : L.length ≤ 140737488355328) (hl : (joinS sep L).size ≤ 140737488355328) : PC Try.prog env0 42 [.sl 1 (sv L), .str sep] [.str (joinS sep L)] :=
 lift_str (enters_of Try.func42 rfl rfl) fun Q w vs hQ hvs => by
   unfold RepIs at hvs
   obtain ⟨v, r, rfl, h1, h2⟩ := hvs
   unfold RepIs at h2
   obtain ⟨v2, r2, rfl, h3, h4⟩ := h2
   unfold RepIs at h4
   subst h4
   unfold RepI at h1 h3
   subst h3
   obtain ⟨a, c, rfl, hle, hc, hcells⟩ := h1
   have hsl : (sv L).length = L.length := List.length_map _
   rw [hsl] at hle hcells ⊢
   by_cases h0 : L = []
   · subst h0
     refine (Try.strings_Join_none a c _ w).mono ?_
     rintro e w' ⟨rfl, rfl⟩
     exact ⟨rfl, Below.refl _ _⟩
   · obtain ⟨b, off, rfl, hb, hR⟩ := hcells (List.length_pos_iff.2 h0)
     have hl2 : (Lib.join (L.map (·.data.toList)) sep.data.toList).length ≤ 140737488355328 := by
       unfold joinS at hl
       rw [size_list, mkB_list] at hl
       exact hl
     refine (Try.strings_Join b off c L sep w (strs_cells hR) (hQ b hb) hn hle hl2).mono ?_
     rintro e w' ⟨rfl, h⟩
     exact ⟨rfl, h⟩
theorem rep_pc (z : Int) (h0 : 0 ≤ z) (h1 : z ≤ 100000) : PC Try.prog env0 47 [.str ⟨#[32]⟩, .int .i64 z] [.str (mkB (List.replicate z.toNat 32))] :=
 lift_str (enters_of Try.func47 rfl rfl) fun Q w vs hQ hvs => by
   unfold RepIs at hvs
   obtain ⟨v, r, rfl, h2, h3⟩ := hvs
   unfold RepIs at h3
   obtain ⟨v2, r2, rfl, h4, h5⟩ := h3
   unfold RepIs at h5
   subst h5
   unfold RepI at h2 h4
   subst h2
   subst h4
   obtain ⟨n, rfl⟩ : ∃ n : Nat, z = (n : Int) := ⟨z.toNat, by omega⟩
   rw [Int.toNat_natCast]
   have hs1 : (⟨#[32]⟩ : Str).size = 1 := rfl
   refine (Try.strings_Repeat ⟨#[32]⟩ n w (by omega) (by rw [hs1]; omega)).mono ?_
   rintro e w' ⟨rfl, h⟩
   exact ⟨by rw [← repeat_sp n]; rfl, h⟩
theorem text_pc (u : Ut) (h : shortW u.words) : PC Try.prog env0 32 [uv u] [.str (say u.words)] := by
 have hue := uv_eq u
 have hml : (u.words.map wdv).length = u.words.length := List.length_map _
 have hl := h.1
 have hJ := join_pc ⟨#[32]⟩ (u.words.map Wd.text) (by rw [List.length_map]; omega) (by have := h.say; unfold say sp at this; omega)
 have hsay : joinS ⟨#[32]⟩ (u.words.map Wd.text) = say u.words := rfl
 rw [hsay] at hJ
 rw [hue]
 refine PC.of_va (T := tb0) eqs_ok tb_ok rfl mixed Try.func32 rfl rfl (Nat.le_of_ble_eq_true rfl) ?_; intro Γ C WK LP fin h0 hW hC hB hR hLP hfin
 (try (conv => whnf)); (repeat ((first | refine qT ?_ | refine qF ?_ | refine qO ?_ | (with_reducible intro z hz); (first | (replace hz := hz (by omega); subst hz) | subst hz)); (try (conv => whnf))))
 refine hLP _ _ _ Nat (fun k => ⟨[(1, .ptr 0 1 0), (3, .row 1 1), (7, .imm (.sl 4 (u.words.map wdv))), (8, .imm (.int .i64 (u.words.length : Nat))), (9, .imm (.int .i64 (k : Nat)))], [.box 1 [.imm (.int .i64 u.id.x), .imm (.int .i64 u.id.y), .imm (.int .i64 u.id.z), .imm (.int .i64 u.kind), .imm (.str u.label), .imm (.sl 4 (u.head.map wdv)), .imm (.sl 4 (u.words.map wdv)), .imm (.sl 8 (u.kids.map uv))], .row 9 1 1 ((sv ((u.words.take k).map Wd.text)).map .imm)]⟩) (fun k => k ≤ u.words.length) (fun k => u.words.length - k) 0 (Nat.zero_le _) (((WeakA.nilSlot 3 9 1 (Nat.le_of_ble_eq_true rfl) rfl)).trans (((WeakA.row 1 (((sv ((u.words.take 0).map Wd.text)).map .imm)) rfl (by simp [sv]))).trans (qSL 2 rfl rfl (hE := by (repeat ((conv => whnf); first | exact trivial | refine And.intro (by first | exact WkOne.any | exact WkOne.eq (by with_reducible rfl) rfl | exact WkOne.eq (congrArg (fun z => PV.imm (IV.int IntKind.i64 z)) (by first | omega | (simp [hml]; done) | (simp [hml]; omega))) rfl | exact WkOne.eq (by first | (simp [hml]; done) | fail) rfl | exact WkOne.eq rfl rfl | exact WkOne.le rfl (ILe.nil _)) ?_)))))) ?_
 intro k hk
 have hho := Nat.lt_or_ge k u.words.length
 cases hho with
 | inl hlt =>
   obtain ⟨a, ha⟩ : ∃ a, u.words[k]? = some a := ⟨u.words[k], List.getElem?_eq_getElem hlt⟩
   have hRl : ((sv ((u.words.take k).map Wd.text)).map PV.imm).length ≤ k := by
     unfold sv
     rw [List.length_map, List.length_map, List.length_map, List.length_take]
     omega
   have hOw : ((sv ((u.words.take k).map Wd.text)).map PV.imm).length + 1 ≤ most := by unfold most; omega
   have hRl2 := hRl
   rw [List.length_map] at hRl2
   (try (conv => whnf)); (repeat ((first | refine qT ?_ | refine qF ?_ | refine qO ?_ | (with_reducible intro z hz); (first | (replace hz := hz (by omega); subst hz) | subst hz)); (try (conv => whnf))))
   refine Idx.mk k (wdv a) _ rfl (by simp [ha]) rfl ?_
   (try (conv => whnf)); (repeat ((first | refine qT ?_ | refine qF ?_ | refine qO ?_ | (with_reducible intro z hz); (first | (replace hz := hz (by omega); subst hz) | subst hz)); (try (conv => whnf))))
   exact ⟨k + 1, by omega, by dsimp only; omega, ((WeakA.row 1 (((sv ((u.words.take (k + 1)).map Wd.text)).map .imm)) rfl (by rw [take_at ha]; simp [sv]))).trans ((WeakA.renew 1 1 rfl (by first | omega | (intro _; rw [hk0 _ _ rfl]; exact Nat.le_of_ble_eq_true rfl)) (by repeat (first | exact trivial | refine And.intro (rgL_imms _ _ _ _) ?_ | refine And.intro rfl ?_))).trans (qSL 2 rfl rfl))⟩
 | inr hge =>
   obtain rfl : k = u.words.length := by omega
   (try (conv => whnf)); (repeat ((first | refine qT ?_ | refine qF ?_ | refine qO ?_ | (with_reducible intro z hz); (first | (replace hz := hz (by omega); subst hz) | subst hz)); (try (conv => whnf))))
   refine Imms.mk (sv (u.words.map Wd.text)) (by rw [List.take_length]) ?_
   (try (conv => whnf)); (repeat ((first | refine qT ?_ | refine qF ?_ | refine qO ?_ | (with_reducible intro z hz); (first | (replace hz := hz (by omega); subst hz) | subst hz) | (refine CallV.mk _ (hC _ _ _ (PCw.of hJ)) (fun js hjs => ?_); subst hjs)); (try (conv => whnf))))
   exact hfin _ (ILes.refl _)
theorem col_pc (t : Ut) (h : Smal t) (c : Int) : PC Try.prog env0 15 [uv t, .int .i64 c] [.sl 1 (sv (colC t c))] := by
 have hH := hasC_pc t h c
 have hte := uv_eq t
 have hml : (t.kids.map uv).length = t.kids.length := List.length_map _
 have hl := h.kids
 unfold colC
 by_cases hb : hasB t 0 c = true
 rotate_left
 · rw [if_neg hb]
   rw [Bool.not_eq_true] at hb
   rw [hb] at hH
   rw [hte] at hH ⊢
   refine PC.of_va (T := tb0) eqs_ok tb_ok rfl mixed Try.func15 rfl rfl (Nat.le_of_ble_eq_true rfl) ?_; intro Γ C WK LP fin h0 hW hC hB hR hLP hfin
   (try (conv => whnf)); (repeat ((first | refine qT ?_ | refine qF ?_ | refine qO ?_ | (with_reducible intro z hz); (first | (replace hz := hz (by omega); subst hz) | subst hz) | (refine CallV.mk _ (hC _ _ _ (PCw.of hH)) (fun js hjs => ?_); subst hjs)); (try (conv => whnf))))
   refine hfin _ ?_
   exact .cons (.nil 1) (.refl _)
 obtain ⟨_, j, _, _, _, rfl, hv, _, _⟩ := has_at hb
 have hjc : j < colsN t := by
   unfold hasB colsV at hb
   rw [if_pos hv] at hb
   simp only [Bool.and_eq_true, decide_eq_true_eq] at hb
   omega
 rw [if_pos hb, Int.toNat_natCast]
 rw [hb] at hH
 rw [hte] at hH ⊢
 refine PC.of_va (T := tb0) eqs_ok tb_ok rfl mixed Try.func15 rfl rfl (Nat.le_of_ble_eq_true rfl) ?_; intro Γ C WK LP fin h0 hW hC hB hR hLP hfin
 (try (conv => whnf)); (repeat ((first | refine qT ?_ | refine qF ?_ | refine qO ?_ | (with_reducible intro z hz); (first | (replace hz := hz (by omega); subst hz) | subst hz) | (refine CallV.mk _ (hC _ _ _ (PCw.of hH)) (fun js hjs => ?_); subst hjs)); (try (conv => whnf))))
 refine hLP _ _ _ Nat (fun k => ⟨[(1, .imm (.int .i64 (j : Nat))), (2, .ptr 0 1 0), (5, .row 2 1), (13, .imm (.sl 8 (t.kids.map uv))), (14, .imm (.int .i64 (t.kids.length : Nat))), (15, .imm (.int .i64 (k : Nat)))], [.box 1 [.imm (.int .i64 t.id.x), .imm (.int .i64 t.id.y), .imm (.int .i64 t.id.z), .imm (.int .i64 t.kind), .imm (.str t.label), .imm (.sl 4 (t.head.map wdv)), .imm (.sl 4 (t.words.map wdv)), .imm (.sl 8 (t.kids.map uv))], .dead 0, .row 9 1 1 ((sv ((t.kids.take k).map fun r => say (cellW r j))).map .imm)]⟩) (fun k => k ≤ t.kids.length) (fun k => t.kids.length - k) 0 (Nat.zero_le _) (((WeakA.nilSlot 5 9 1 (Nat.le_of_ble_eq_true rfl) rfl)).trans (((WeakA.row 2 (((sv ((t.kids.take 0).map fun r => say (cellW r j))).map .imm)) rfl (by simp [sv]))).trans (qSL 3 rfl rfl (hE := by (repeat ((conv => whnf); first | exact trivial | refine And.intro (by first | exact WkOne.any | exact WkOne.eq (by with_reducible rfl) rfl | exact WkOne.eq (congrArg (fun z => PV.imm (IV.int IntKind.i64 z)) (by first | omega | (simp [hml]; done) | (simp [hml]; omega))) rfl | exact WkOne.eq (by first | (simp [hml]; done) | fail) rfl | exact WkOne.eq rfl rfl | exact WkOne.le rfl (ILe.nil _)) ?_)))))) ?_
 intro k hk
 have hho := Nat.lt_or_ge k t.kids.length
 cases hho with
 | inl hlt =>
   obtain ⟨x, hx⟩ : ∃ x, t.kids[k]? = some x := ⟨t.kids[k], List.getElem?_eq_getElem hlt⟩
   have hux := uv_eq x
   have hxm := List.mem_of_getElem? hx
   have hxl := valid_row hv hxm
   have hmx : (x.kids.map uv).length = x.kids.length := List.length_map _
   obtain ⟨y, hy⟩ : ∃ y, x.kids[j]? = some y := ⟨x.kids[j]'(by omega), List.getElem?_eq_getElem (by omega)⟩
   have huy := uv_eq y
   have hcw : cellW x j = y.words := by unfold cellW; rw [hy]; rfl
   have hSy := text_pc y (by rw [← hcw]; exact cell_short h hxm j)
   rw [huy] at hSy
   have hRl : ((sv ((t.kids.take k).map fun r => say (cellW r j))).map PV.imm).length ≤ k := by
     unfold sv
     rw [List.length_map, List.length_map, List.length_map, List.length_take]
     omega
   have hOw : ((sv ((t.kids.take k).map fun r => say (cellW r j))).map PV.imm).length + 1 ≤ most := by unfold most; omega
   have hRl2 := hRl
   rw [List.length_map] at hRl2
   (try (conv => whnf)); (repeat ((first | refine qT ?_ | refine qF ?_ | refine qO ?_ | (with_reducible intro z hz); (first | (replace hz := hz (by omega); subst hz) | subst hz)); (try (conv => whnf))))
   refine Idx.mk k (uv x) _ rfl (by simp [hx]) (by rw [hux]; try rfl) ?_
   (try (conv => whnf)); (repeat ((first | refine qT ?_ | refine qF ?_ | refine qO ?_ | (with_reducible intro z hz); (first | (replace hz := hz (by omega); subst hz) | subst hz)); (try (conv => whnf))))
   refine Idx.mk j (uv y) _ rfl (by simp [hy]) (by rw [huy]; try rfl) ?_
   (try (conv => whnf)); (repeat ((first | refine qT ?_ | refine qF ?_ | refine qO ?_ | (with_reducible intro z hz); (first | (replace hz := hz (by omega); subst hz) | subst hz) | (refine CallV.mk _ (hC _ _ _ (PCw.of hSy)) (fun js hjs => ?_); subst hjs)); (try (conv => whnf))))
   exact ⟨k + 1, by omega, by dsimp only; omega, ((WeakA.row 2 (((sv ((t.kids.take (k + 1)).map fun r => say (cellW r j))).map .imm)) rfl (by rw [take_at hx]; simp [sv, hcw]))).trans ((WeakA.renew 2 1 rfl (by first | omega | (intro _; rw [hk0 _ _ rfl]; exact Nat.le_of_ble_eq_true rfl)) (by repeat (first | exact trivial | refine And.intro (rgL_imms _ _ _ _) ?_ | refine And.intro rfl ?_))).trans (qSL 3 rfl rfl))⟩
 | inr hge =>
   obtain rfl : k = t.kids.length := by omega
   (try (conv => whnf)); (repeat ((first | refine qT ?_ | refine qF ?_ | refine qO ?_ | (with_reducible intro z hz); (first | (replace hz := hz (by omega); subst hz) | subst hz)); (try (conv => whnf))))
   refine Imms.mk (sv (colL t j)) (by rw [List.take_length]; rfl) ?_
   exact hfin _ (ILes.refl _)
theorem wid_pc (t : Ut) (h : Smal t) : PC Try.prog env0 21 [uv t] [.sl 1 (zv (widesV t))] := by
 have hZ := size_pc t h
 have hte := uv_eq t
 unfold widesV
 unfold rowsV colsV at hZ
 by_cases hv : validT t = true
 rotate_left
 · rw [if_neg hv, if_neg hv] at hZ
   rw [if_neg hv]
   rw [hte] at hZ ⊢
   refine PC.of_va (T := tb0) eqs_ok tb_ok rfl mixed Try.func21 rfl rfl (Nat.le_of_ble_eq_true rfl) ?_; intro Γ C WK LP fin h0 hW hC hB hR hLP hfin
   (try (conv => whnf)); (repeat ((first | refine qT ?_ | refine qF ?_ | refine qO ?_ | (with_reducible intro z hz); (first | (replace hz := hz (by omega); subst hz) | subst hz) | (refine CallV.mk _ (hC _ _ _ (PCw.of hZ)) (fun js hjs => ?_); subst hjs)); (try (conv => whnf))))
   refine hLP _ _ _ Unit (fun _ => ⟨[(5, .imm .nil), (15, .imm (.int .i64 0)), (16, .imm (.int .i64 0))], [.box 1 [.imm (.int .i64 t.id.x), .imm (.int .i64 t.id.y), .imm (.int .i64 t.id.z), .imm (.int .i64 t.kind), .imm (.str t.label), .imm (.sl 4 (t.head.map wdv)), .imm (.sl 4 (t.words.map wdv)), .imm (.sl 8 (t.kids.map uv))]]⟩) (fun _ => True) (fun _ => 0) () trivial (qSL 1 rfl rfl) ?_
   rintro _ _
   (try (conv => whnf)); (repeat ((first | refine qT ?_ | refine qF ?_ | refine qO ?_ | (with_reducible intro z hz); (first | (replace hz := hz (by omega); subst hz) | subst hz)); (try (conv => whnf))))
   refine hfin _ ?_
   exact .cons (.nil 1) (.refl _)
 have hcl := cols_le h hv
 have hkl := h.kids
 rw [if_pos hv, if_pos hv] at hZ
 rw [if_pos hv]
 have hCs : ∀ j, j < colsN t → PC Try.prog env0 15 [uv t, .int .i64 (j : Nat)] [.sl 1 (sv (colL t j))] := fun j hj => by
   have := col_pc t h j
   rw [colC_of hv hj] at this
   exact this
 have hsz : ∀ j, ∀ s ∈ colL t j, s.size ≤ 30300 := fun j s hs => by
   unfold colL at hs
   obtain ⟨r, hr, rfl⟩ := List.mem_map.1 hs
   exact (cell_short h hr _).say
 have hw : wides t = (List.range (colsN t)).map fun c => maxL (colL t c) := rfl
 rw [hw]
 generalize colsN t = m at hZ hCs hcl ⊢
 generalize t.kids.length = rows at hZ
 rw [hte] at hZ ⊢
 refine PC.of_va (T := tb0) eqs_ok tb_ok rfl mixed Try.func21 rfl rfl (Nat.le_of_ble_eq_true rfl) ?_; intro Γ C WK LP fin h0 hW hC hB hR hLP hfin
 (try (conv => whnf)); (repeat ((first | refine qT ?_ | refine qF ?_ | refine qO ?_ | (with_reducible intro z hz); (first | (replace hz := hz (by omega); subst hz) | subst hz) | (refine CallV.mk _ (hC _ _ _ (PCw.of hZ)) (fun js hjs => ?_); subst hjs)); (try (conv => whnf))))
 refine hLP _ _ _ Nat (fun k => ⟨[(1, .ptr 0 1 0), (5, .row 2 1), (15, .imm (.int .i64 (m : Nat))), (16, .imm (.int .i64 (k : Nat)))], [.box 1 [.imm (.int .i64 t.id.x), .imm (.int .i64 t.id.y), .imm (.int .i64 t.id.z), .imm (.int .i64 t.kind), .imm (.str t.label), .imm (.sl 4 (t.head.map wdv)), .imm (.sl 4 (t.words.map wdv)), .imm (.sl 8 (t.kids.map uv))], .dead 0, .row 3 1 1 ((zv ((List.range k).map fun c => maxL (colL t c))).map .imm)]⟩) (fun k => k ≤ m) (fun k => m - k) 0 (Nat.zero_le _) (((WeakA.nilSlot 5 3 1 (Nat.le_of_ble_eq_true rfl) rfl)).trans (((WeakA.row 2 (((zv ((List.range 0).map fun c => maxL (colL t c))).map .imm)) rfl (by simp [zv]))).trans (qSL 3 rfl rfl))) ?_
 intro k hk
 have hho := Nat.lt_or_ge k m
 cases hho with
 | inl hlt =>
   have hCk := hCs k hlt
   rw [hte] at hCk
   have hRl : ((zv ((List.range k).map fun c => maxL (colL t c))).map PV.imm).length ≤ k := by unfold zv; simp
   have hOw : ((zv ((List.range k).map fun c => maxL (colL t c))).map PV.imm).length + 1 ≤ most := by unfold most; omega
   have hRl2 := hRl
   rw [List.length_map] at hRl2
   have hzk := hsz k
   generalize hL : colL t k = L at hCk hzk
   have hml : (sv L).length = L.length := List.length_map _
   have hlen : L.length ≤ 60 := by rw [← hL]; unfold colL; rw [List.length_map]; exact hkl
   (try (conv => whnf)); (repeat ((first | refine qT ?_ | refine qF ?_ | refine qO ?_ | (with_reducible intro z hz); (first | (replace hz := hz (by omega); subst hz) | subst hz) | (refine CallV.mk _ (hC _ _ _ (PCw.of hCk)) (fun js hjs => ?_); subst hjs)); (try (conv => whnf))))
   refine hLP _ _ _ Nat (fun i => ⟨[(1, .ptr 0 1 0), (5, .row 2 1), (7, .imm (.int .i64 (maxL (L.take i) : Nat))), (15, .imm (.int .i64 (m : Nat))), (16, .imm (.int .i64 (k : Nat))), (21, .imm (.sl 1 (sv L))), (22, .imm (.int .i64 (L.length : Nat))), (23, .imm (.int .i64 (i : Nat)))], [.box 1 [.imm (.int .i64 t.id.x), .imm (.int .i64 t.id.y), .imm (.int .i64 t.id.z), .imm (.int .i64 t.kind), .imm (.str t.label), .imm (.sl 4 (t.head.map wdv)), .imm (.sl 4 (t.words.map wdv)), .imm (.sl 8 (t.kids.map uv))], .dead 0, .row 3 1 1 ((zv ((List.range k).map fun c => maxL (colL t c))).map .imm)]⟩) (fun i => i ≤ L.length) (fun i => L.length - i) 0 (Nat.zero_le _) (qSL 3 rfl rfl (hE := by (repeat ((conv => whnf); first | exact trivial | refine And.intro (by first | exact WkOne.any | exact WkOne.eq (by with_reducible rfl) rfl | exact WkOne.eq (congrArg (fun z => PV.imm (IV.int IntKind.i64 z)) (by first | omega | (simp [maxL, List.take_zero, hml]; done) | (simp [maxL, List.take_zero, hml]; omega))) rfl | exact WkOne.eq (by first | (simp [maxL, List.take_zero, hml]; done) | fail) rfl | exact WkOne.eq rfl rfl | exact WkOne.le rfl (ILe.nil _)) ?_)))) ?_
   intro i hi
   have hho := Nat.lt_or_ge i L.length
   cases hho with
   | inl hil =>
     obtain ⟨s, hs⟩ : ∃ s, L[i]? = some s := ⟨L[i], List.getElem?_eq_getElem hil⟩
     have hss := hzk s (List.mem_of_getElem? hs)
     have hmx : maxL (L.take (i + 1)) = max (maxL (L.take i)) s.size := by rw [take_at hs, maxL_snoc]
     have hmz : maxL (L.take i) ≤ 30300 := maxL_le fun x hx => hzk x (List.mem_of_mem_take hx)
     (try (conv => whnf)); (repeat ((first | refine qT ?_ | refine qF ?_ | refine qO ?_ | (with_reducible intro z hz); (first | (replace hz := hz (by omega); subst hz) | subst hz)); (try (conv => whnf))))
     refine Idx.mk i (.str s) _ rfl (by simp [sv, hs]) rfl ?_
     (try (conv => whnf)); (repeat ((first | refine qT ?_ | refine qF ?_ | refine qO ?_ | (with_reducible intro z hz); (first | (replace hz := hz (by omega); subst hz) | subst hz)); (try (conv => whnf))))
     intro z hz
     have hzq : z = ((maxL (L.take (i + 1)) : Nat) : Int) := by rw [hmx]; omega
     subst hzq
     clear hmx hz
     (try (conv => whnf)); (repeat ((first | refine qT ?_ | refine qF ?_ | refine qO ?_ | (with_reducible intro z hz); (first | (replace hz := hz (by omega); subst hz) | subst hz)); (try (conv => whnf))))
     exact ⟨i + 1, by omega, by dsimp only; omega, (qSL 3 rfl rfl)⟩
   | inr hig =>
     obtain rfl : i = L.length := by omega
     (try (conv => whnf)); (repeat ((first | refine qT ?_ | refine qF ?_ | refine qO ?_ | (with_reducible intro z hz); (first | (replace hz := hz (by omega); subst hz) | subst hz)); (try (conv => whnf))))
     exact ⟨k + 1, by omega, by dsimp only; omega, ((WeakA.row 2 (((zv ((List.range (k + 1)).map fun c => maxL (colL t c))).map .imm)) rfl (by rw [List.range_succ]; simp [zv, hL]))).trans ((WeakA.renew 2 1 rfl (by first | omega | (intro _; rw [hk0 _ _ rfl]; exact Nat.le_of_ble_eq_true rfl)) (by repeat (first | exact trivial | refine And.intro (rgL_imms _ _ _ _) ?_ | refine And.intro rfl ?_))).trans (qSL 3 rfl rfl))⟩
 | inr hge =>
   obtain rfl : k = m := by omega
   (try (conv => whnf)); (repeat ((first | refine qT ?_ | refine qF ?_ | refine qO ?_ | (with_reducible intro z hz); (first | (replace hz := hz (by omega); subst hz) | subst hz)); (try (conv => whnf))))
   refine Imms.mk (zv ((List.range k).map fun c => maxL (colL t c))) rfl ?_
   exact hfin _ (ILes.refl _)
theorem line_pc (x : Ut) (ws : List Nat) (h : Smal x) (hw : ∀ j, ws.getD j 0 ≤ 30300) (hl : ws.length = x.kids.length) (hle : ∀ k, k < x.kids.length → (say (cellW x k)).size ≤ ws.getD k 0) : PC Try.prog env0 36 [uv x, .sl 1 (zv ws)] [.str (lineS ws x)] := by
 have hux := uv_eq x
 have hmx : (x.kids.map uv).length = x.kids.length := List.length_map _
 have hmw : (zv ws).length = ws.length := List.length_map _
 have hxl := h.kids
 have hss : ∀ j, (say (cellW x j)).size ≤ 30300 := fun j => by
   cases hc : x.kids[j]? with
   | none =>
     have : cellW x j = [] := by unfold cellW; rw [hc]; rfl
     rw [this, say_nil]
     exact Nat.zero_le _
   | some y =>
     have : cellW x j = y.words := by unfold cellW; rw [hc]; rfl
     rw [this]
     exact shortW.say (h.kid (List.mem_of_getElem? hc) y (all_self y)).2
 have hwa : ∀ k, k < x.kids.length → ws[k]? = some (ws.getD k 0) := fun k hk => by
   rw [List.getD_eq_getElem?_getD, List.getElem?_eq_getElem (by omega)]
   rfl
 have hJs := cellsS_size (ws := ws) (r := x) (k := x.kids.length) hxl hss hw
 have hlen : (cellsS ws x x.kids.length).length = x.kids.length := by unfold cellsS; rw [List.length_map, List.length_range]
 have hJ := join_pc bar (cellsS ws x x.kids.length) (by omega) (by omega)
 have hli : lineS ws x = joinS bar (cellsS ws x x.kids.length) := rfl
 have hbe : bar = ⟨#[32, 124, 32]⟩ := rfl
 rw [hbe] at hJ
 rw [hli, hbe]
 rw [hux]
 refine PC.of_va (T := tb0) eqs_ok tb_ok rfl mixed Try.func36 rfl rfl (Nat.le_of_ble_eq_true rfl) ?_; intro Γ C WK LP fin h0 hW hC hB hR hLP hfin
 (try (conv => whnf)); (repeat ((first | refine qT ?_ | refine qF ?_ | refine qO ?_ | (with_reducible intro z hz); (first | (replace hz := hz (by omega); subst hz) | subst hz)); (try (conv => whnf))))
 refine hLP _ _ _ Nat (fun k => ⟨[(1, .imm (.sl 1 (zv ws))), (2, .ptr 0 1 0), (5, .row 1 1), (10, .imm (.sl 8 (x.kids.map uv))), (11, .imm (.int .i64 (x.kids.length : Nat))), (12, .imm (.int .i64 (k : Nat)))], [.box 1 [.imm (.int .i64 x.id.x), .imm (.int .i64 x.id.y), .imm (.int .i64 x.id.z), .imm (.int .i64 x.kind), .imm (.str x.label), .imm (.sl 4 (x.head.map wdv)), .imm (.sl 4 (x.words.map wdv)), .imm (.sl 8 (x.kids.map uv))], .row 9 1 1 ((sv (cellsS ws x k)).map .imm)]⟩) (fun k => k ≤ x.kids.length) (fun k => x.kids.length - k) 0 (Nat.zero_le _) (((WeakA.nilSlot 5 9 1 (Nat.le_of_ble_eq_true rfl) rfl)).trans (((WeakA.row 1 (((sv (cellsS ws x 0)).map .imm)) rfl (by simp [sv, cellsS]))).trans (qSL 2 rfl rfl (hE := by (repeat ((conv => whnf); first | exact trivial | refine And.intro (by first | exact WkOne.any | exact WkOne.eq (by with_reducible rfl) rfl | exact WkOne.eq (congrArg (fun z => PV.imm (IV.int IntKind.i64 z)) (by first | omega | (simp [hmx]; done) | (simp [hmx]; omega))) rfl | exact WkOne.eq (by first | (simp [hmx]; done) | fail) rfl | exact WkOne.eq rfl rfl | exact WkOne.le rfl (ILe.nil _)) ?_)))))) ?_
 intro k hk
 have hho := Nat.lt_or_ge k x.kids.length
 cases hho with
 | inl hlt =>
   obtain ⟨y, hy⟩ : ∃ y, x.kids[k]? = some y := ⟨x.kids[k], List.getElem?_eq_getElem hlt⟩
   have huy := uv_eq y
   have hym := List.mem_of_getElem? hy
   have hcw : cellW x k = y.words := by unfold cellW; rw [hy]; rfl
   have hSy := text_pc y (h.kid hym y (all_self y)).2
   have hRl : ((sv (cellsS ws x k)).map PV.imm).length ≤ k := by
     unfold sv cellsS
     rw [List.length_map, List.length_map, List.length_map, List.length_range]
     omega
   have hOw : ((sv (cellsS ws x k)).map PV.imm).length + 1 ≤ most := by unfold most; omega
   have hsk := hss k
   have hwk := hw k
   have hwak := hwa k hlt
   have hlek := hle k hlt
   have hcs : cellS ws x k = if k + 1 < x.kids.length then pad (say (cellW x k)) (ws.getD k 0 - (say (cellW x k)).size) else say (cellW x k) := rfl
   have hsuc := cellsS_succ ws x k
   rw [hcw] at hsk hcs hlek
   rw [huy] at hSy
   generalize say y.words = c at hSy hsk hcs hlek
   generalize ws.getD k 0 = w at hwk hwak hcs hlek
   have hRp := rep_pc ((w : Int) - (c.size : Nat)) (by omega) (by omega)
   have htn : ((w : Int) - (c.size : Nat)).toNat = w - c.size := by omega
   rw [htn] at hRp
   have hmz : (mkB (List.replicate (w - c.size) 32)).size = w - c.size := by rw [size_list, mkB_list, List.length_replicate]
   have hpd : pad c (w - c.size) = c ++ mkB (List.replicate (w - c.size) 32) := rfl
   have hh1 := Nat.lt_or_ge (k + 1) x.kids.length
   cases hh1 with
   | inl h1 =>
     rw [if_pos h1, hpd] at hcs
     rw [hcs] at hsuc
     (try (conv => whnf)); (repeat ((first | refine qT ?_ | refine qF ?_ | refine qO ?_ | (with_reducible intro z hz); (first | (replace hz := hz (by omega); subst hz) | subst hz)); (try (conv => whnf))))
     refine Idx.mk k (uv y) _ rfl (by simp [hy]) (by rw [huy]; try rfl) ?_
     (try (conv => whnf)); (repeat ((first | refine qT ?_ | refine qF ?_ | refine qO ?_ | (with_reducible intro z hz); (first | (replace hz := hz (by omega); subst hz) | subst hz) | (refine CallV.mk _ (hC _ _ _ (PCw.of hSy)) (fun js hjs => ?_); subst hjs)); (try (conv => whnf))))
     refine Idx.mk k (.int .i64 (w : Nat)) _ rfl (by simp [zv, hwak]) rfl ?_
     (try (conv => whnf)); (repeat ((first | refine qT ?_ | refine qF ?_ | refine qO ?_ | (with_reducible intro z hz); (first | (replace hz := hz (by omega); subst hz) | subst hz) | (refine CallV.mk _ (hC _ _ _ (PCw.of hRp)) (fun js hjs => ?_); subst hjs)); (try (conv => whnf))))
     exact ⟨k + 1, by omega, by dsimp only; omega, ((WeakA.row 1 (((sv (cellsS ws x (k + 1))).map .imm)) rfl (by rw [hsuc]; simp [sv]))).trans ((WeakA.renew 1 1 rfl (by first | omega | (intro _; rw [hk0 _ _ rfl]; exact Nat.le_of_ble_eq_true rfl)) (by repeat (first | exact trivial | refine And.intro (rgL_imms _ _ _ _) ?_ | refine And.intro rfl ?_))).trans (qSL 2 rfl rfl))⟩
   | inr h1 =>
     rw [if_neg (Nat.not_lt.2 h1)] at hcs
     rw [hcs] at hsuc
     (try (conv => whnf)); (repeat ((first | refine qT ?_ | refine qF ?_ | refine qO ?_ | (with_reducible intro z hz); (first | (replace hz := hz (by omega); subst hz) | subst hz)); (try (conv => whnf))))
     refine Idx.mk k (uv y) _ rfl (by simp [hy]) (by rw [huy]; try rfl) ?_
     (try (conv => whnf)); (repeat ((first | refine qT ?_ | refine qF ?_ | refine qO ?_ | (with_reducible intro z hz); (first | (replace hz := hz (by omega); subst hz) | subst hz) | (refine CallV.mk _ (hC _ _ _ (PCw.of hSy)) (fun js hjs => ?_); subst hjs)); (try (conv => whnf))))
     exact ⟨k + 1, by omega, by dsimp only; omega, ((WeakA.row 1 (((sv (cellsS ws x (k + 1))).map .imm)) rfl (by rw [hsuc]; simp [sv]))).trans ((WeakA.renew 1 1 rfl (by first | omega | (intro _; rw [hk0 _ _ rfl]; exact Nat.le_of_ble_eq_true rfl)) (by repeat (first | exact trivial | refine And.intro (rgL_imms _ _ _ _) ?_ | refine And.intro rfl ?_))).trans (qSL 2 rfl rfl))⟩
 | inr hge =>
   have hke : x.kids.length = k := by omega
   rw [hke] at hJ hfin
   (try (conv => whnf)); (repeat ((first | refine qT ?_ | refine qF ?_ | refine qO ?_ | (with_reducible intro z hz); (first | (replace hz := hz (by omega); subst hz) | subst hz)); (try (conv => whnf))))
   refine Imms.mk (sv (cellsS ws x k)) rfl ?_
   (try (conv => whnf)); (repeat ((first | refine qT ?_ | refine qF ?_ | refine qO ?_ | (with_reducible intro z hz); (first | (replace hz := hz (by omega); subst hz) | subst hz) | (refine CallV.mk _ (hC _ _ _ (PCw.of hJ)) (fun js hjs => ?_); subst hjs)); (try (conv => whnf))))
   exact hfin _ (ILes.refl _)
theorem fmt_pc (t : Ut) (h : Smal t) : PC Try.prog env0 19 [uv t] [.sl 1 (sv (linesV t))] := by
 have hV := valid_pc t h
 have hW0 := wid_pc t h
 have hte := uv_eq t
 have hml : (t.kids.map uv).length = t.kids.length := List.length_map _
 have hkl := h.kids
 unfold linesV
 unfold widesV at hW0
 by_cases hv : validT t = true
 rotate_left
 · rw [if_neg hv]
   rw [Bool.not_eq_true] at hv
   rw [hv] at hV
   rw [hte] at hV ⊢
   refine PC.of_va (T := tb0) eqs_ok tb_ok rfl mixed Try.func19 rfl rfl (Nat.le_of_ble_eq_true rfl) ?_; intro Γ C WK LP fin h0 hW hC hB hR hLP hfin
   (try (conv => whnf)); (repeat ((first | refine qT ?_ | refine qF ?_ | refine qO ?_ | (with_reducible intro z hz); (first | (replace hz := hz (by omega); subst hz) | subst hz) | (refine CallV.mk _ (hC _ _ _ (PCw.of hV)) (fun js hjs => ?_); subst hjs)); (try (conv => whnf))))
   refine hfin _ ?_
   exact .cons (.nil 1) (.refl _)
 rw [if_pos hv] at hW0 ⊢
 rw [hv] at hV
 have hlS : linesS t = t.kids.map (lineS (wides t)) := rfl
 rw [hlS]
 have hLi : ∀ x ∈ t.kids, PC Try.prog env0 36 [uv x, .sl 1 (zv (wides t))] [.str (lineS (wides t) x)] := fun x hx => by
   have hxl := valid_row hv hx
   refine line_pc x (wides t) (h.kid hx) (wides_le h) (by rw [wides_len, hxl]) fun k hk => ?_
   rw [List.getD_eq_getElem?_getD, wides_at (by omega)]
   refine mem_maxL ?_
   unfold colL
   exact List.mem_map.2 ⟨x, hx, rfl⟩
 generalize wides t = ws at hW0 hLi ⊢
 rw [hte] at hV hW0 ⊢
 refine PC.of_va (T := tb0) eqs_ok tb_ok rfl mixed Try.func19 rfl rfl (Nat.le_of_ble_eq_true rfl) ?_; intro Γ C WK LP fin h0 hW hC hB hR hLP hfin
 (try (conv => whnf)); (repeat ((first | refine qT ?_ | refine qF ?_ | refine qO ?_ | (with_reducible intro z hz); (first | (replace hz := hz (by omega); subst hz) | subst hz) | (refine CallV.mk _ (hC _ _ _ (PCw.of hV)) (fun js hjs => ?_); subst hjs) | (refine CallV.mk _ (hC _ _ _ (PCw.of hW0)) (fun js hjs => ?_); subst hjs)); (try (conv => whnf))))
 refine hLP _ _ _ Nat (fun k => ⟨[(1, .ptr 0 1 0), (3, .imm (.sl 1 (zv ws))), (4, .row 3 1), (13, .imm (.sl 8 (t.kids.map uv))), (14, .imm (.int .i64 (t.kids.length : Nat))), (15, .imm (.int .i64 (k : Nat)))], [.box 1 [.imm (.int .i64 t.id.x), .imm (.int .i64 t.id.y), .imm (.int .i64 t.id.z), .imm (.int .i64 t.kind), .imm (.str t.label), .imm (.sl 4 (t.head.map wdv)), .imm (.sl 4 (t.words.map wdv)), .imm (.sl 8 (t.kids.map uv))], .dead 0, .dead 0, .row 9 1 1 ((sv ((t.kids.take k).map (lineS ws))).map .imm)]⟩) (fun k => k ≤ t.kids.length) (fun k => t.kids.length - k) 0 (Nat.zero_le _) (((WeakA.nilSlot 4 9 1 (Nat.le_of_ble_eq_true rfl) rfl)).trans (((WeakA.row 3 (((sv ((t.kids.take 0).map (lineS ws))).map .imm)) rfl (by simp [sv]))).trans (qSL 4 rfl rfl (hE := by (repeat ((conv => whnf); first | exact trivial | refine And.intro (by first | exact WkOne.any | exact WkOne.eq (by with_reducible rfl) rfl | exact WkOne.eq (congrArg (fun z => PV.imm (IV.int IntKind.i64 z)) (by first | omega | (simp [hml]; done) | (simp [hml]; omega))) rfl | exact WkOne.eq (by first | (simp [hml]; done) | fail) rfl | exact WkOne.eq rfl rfl | exact WkOne.le rfl (ILe.nil _)) ?_)))))) ?_
 intro k hk
 have hho := Nat.lt_or_ge k t.kids.length
 cases hho with
 | inl hlt =>
   obtain ⟨x, hx⟩ : ∃ x, t.kids[k]? = some x := ⟨t.kids[k], List.getElem?_eq_getElem hlt⟩
   have hux := uv_eq x
   have hL0 := hLi x (List.mem_of_getElem? hx)
   rw [hux] at hL0
   have hRl : ((sv ((t.kids.take k).map (lineS ws))).map PV.imm).length ≤ k := by
     unfold sv
     rw [List.length_map, List.length_map, List.length_map, List.length_take]
     omega
   have hOw : ((sv ((t.kids.take k).map (lineS ws))).map PV.imm).length + 1 ≤ most := by unfold most; omega
   (try (conv => whnf)); (repeat ((first | refine qT ?_ | refine qF ?_ | refine qO ?_ | (with_reducible intro z hz); (first | (replace hz := hz (by omega); subst hz) | subst hz)); (try (conv => whnf))))
   refine Idx.mk k (uv x) _ rfl (by simp [hx]) (by rw [hux]; try rfl) ?_
   (try (conv => whnf)); (repeat ((first | refine qT ?_ | refine qF ?_ | refine qO ?_ | (with_reducible intro z hz); (first | (replace hz := hz (by omega); subst hz) | subst hz) | (refine CallV.mk _ (hC _ _ _ (PCw.of hL0)) (fun js hjs => ?_); subst hjs)); (try (conv => whnf))))
   exact ⟨k + 1, by omega, by dsimp only; omega, ((WeakA.row 3 (((sv ((t.kids.take (k + 1)).map (lineS ws))).map .imm)) rfl (by rw [take_at hx]; simp [sv]))).trans ((WeakA.renew 3 1 rfl (by first | omega | (intro _; rw [hk0 _ _ rfl]; exact Nat.le_of_ble_eq_true rfl)) (by repeat (first | exact trivial | refine And.intro (rgL_imms _ _ _ _) ?_ | refine And.intro rfl ?_))).trans (qSL 4 rfl rfl))⟩
 | inr hge =>
   obtain rfl : k = t.kids.length := by omega
   (try (conv => whnf)); (repeat ((first | refine qT ?_ | refine qF ?_ | refine qO ?_ | (with_reducible intro z hz); (first | (replace hz := hz (by omega); subst hz) | subst hz)); (try (conv => whnf))))
   refine Imms.mk (sv (t.kids.map (lineS ws))) (by rw [List.take_length]) ?_
   exact hfin _ (ILes.refl _)
end Go.Proofs.Ytdkalehijilchaa.Pb
