/-
  The reference's Text.
-/
import Derived.Test.YtaciihgejkhlnaaWCh
namespace Go.Proofs.Ytaciihgejkhlnaa.Pb
open Go Go.Pv Go.RowKit
set_option linter.unusedSimpArgs false
open Lab Lcs Go.Proofs.Ytaciihgejkhlnaa Go.Proofs.Ytaciihgejkhlnaa.Pu Go.Proofs.Ytaciihgejkhlnaa.Pt
set_option maxRecDepth 10000
set_option maxHeartbeats 16000000
theorem rtext_pc (t : Ut) (h : Smal t) : PC Try.prog env0 17 [uv t] [.sl 1 (sv (linesV t))] := by
 have hZ := rsize_pc t h
 have hW0 := rwide_pc t h
 have hte := uv_eq t
 have hml : (t.kids.map uv).length = t.kids.length := List.length_map _
 have hkl := h.kids
 unfold linesV
 unfold widesV at hW0
 unfold rowsV colsV at hZ
 by_cases hv : validT t = true
 rotate_left
 · rw [if_neg hv, if_neg hv] at hZ
   rw [if_neg hv] at hW0 ⊢
   rw [hte] at hZ hW0 ⊢
   refine PC.of_va (T := tb0) eqs_ok tb_ok rfl mixed Try.func17 rfl rfl (Nat.le_of_ble_eq_true rfl) ?_; intro Γ C WK LP fin h0 hW hC hB hR hLP hfin
   (try (conv => whnf)); (repeat ((first | refine qT ?_ | refine qF ?_ | refine qO ?_ | (with_reducible intro z hz); (first | (replace hz := hz (by omega); subst hz) | subst hz) | (refine CallV.mk _ (hC _ _ _ (PCw.of hZ)) (fun js hjs => ?_); subst hjs) | (refine CallV.mk _ (hC _ _ _ (PCw.of hW0)) (fun js hjs => ?_); subst hjs)); (try (conv => whnf))))
   refine hLP _ _ _ Unit (fun _ => ⟨[(3, .row 1 1), (4, .imm (.int .i64 0)), (7, .imm (.int .i64 0))], [.box 1 [.imm (.int .i64 t.id.x), .imm (.int .i64 t.id.y), .imm (.int .i64 t.id.z), .imm (.int .i64 t.kind), .imm (.str t.label), .imm (.sl 4 (t.head.map wdv)), .imm (.sl 4 (t.words.map wdv)), .imm (.sl 8 (t.kids.map uv))], .row 9 1 1 []]⟩) (fun _ => True) (fun _ => 0) () trivial (qSL 2 rfl rfl) ?_
   rintro _ _
   (try (conv => whnf)); (repeat ((first | refine qT ?_ | refine qF ?_ | refine qO ?_ | (with_reducible intro z hz); (first | (replace hz := hz (by omega); subst hz) | subst hz)); (try (conv => whnf))))
   refine Imms.mk [] rfl ?_
   exact hfin _ (ILes.refl _)
 have hcl := cols_le h hv
 have hws := wides_le h
 have hwl := wides_len t
 have hwa : ∀ k, k < colsN t → (wides t)[k]? = some ((wides t).getD k 0) := fun k hk => by rw [List.getD_eq_getElem?_getD, wides_at hk]; rfl
 rw [if_pos hv, if_pos hv] at hZ
 rw [if_pos hv] at hW0 ⊢
 have hlS : linesS t = t.kids.map (lineS (wides t)) := rfl
 rw [hlS]
 have hrow : ∀ x ∈ t.kids, x.kids.length = colsN t := fun x hx => valid_row hv hx
 generalize wides t = ws at hW0 hws hwl hwa ⊢
 generalize colsN t = n at hZ hcl hwl hwa hrow
 have hmw : (zv ws).length = ws.length := List.length_map _
 rw [hte] at hZ hW0 ⊢
 refine PC.of_va (T := tb0) eqs_ok tb_ok rfl mixed Try.func17 rfl rfl (Nat.le_of_ble_eq_true rfl) ?_; intro Γ C WK LP fin h0 hW hC hB hR hLP hfin
 (try (conv => whnf)); (repeat ((first | refine qT ?_ | refine qF ?_ | refine qO ?_ | (with_reducible intro z hz); (first | (replace hz := hz (by omega); subst hz) | subst hz) | (refine CallV.mk _ (hC _ _ _ (PCw.of hZ)) (fun js hjs => ?_); subst hjs) | (refine CallV.mk _ (hC _ _ _ (PCw.of hW0)) (fun js hjs => ?_); subst hjs)); (try (conv => whnf))))
 refine hLP _ _ _ Nat (fun i => ⟨[(1, .ptr 0 1 0), (3, .row 1 1), (4, .imm (.int .i64 (t.kids.length : Nat))), (5, .imm (.int .i64 (n : Nat))), (6, .imm (.sl 1 (zv ws))), (7, .imm (.int .i64 (i : Nat)))], [.box 1 [.imm (.int .i64 t.id.x), .imm (.int .i64 t.id.y), .imm (.int .i64 t.id.z), .imm (.int .i64 t.kind), .imm (.str t.label), .imm (.sl 4 (t.head.map wdv)), .imm (.sl 4 (t.words.map wdv)), .imm (.sl 8 (t.kids.map uv))], .row 9 1 1 ((sv ((t.kids.take i).map (lineS ws))).map .imm)]⟩) (fun i => i ≤ t.kids.length) (fun i => t.kids.length - i) 0 (Nat.zero_le _) (((WeakA.row 1 (((sv ((t.kids.take 0).map (lineS ws))).map .imm)) rfl (by simp [sv]))).trans (qSL 2 rfl rfl)) ?_
 intro i hi
 have hho := Nat.lt_or_ge i t.kids.length
 cases hho with
 | inl hlt =>
   obtain ⟨x, hx⟩ : ∃ x, t.kids[i]? = some x := ⟨t.kids[i], List.getElem?_eq_getElem hlt⟩
   have hux := uv_eq x
   have hxm := List.mem_of_getElem? hx
   have hxl := hrow x hxm
   have hmx : (x.kids.map uv).length = x.kids.length := List.length_map _
   have hss : ∀ j, (say (cellW x j)).size ≤ 30300 := fun j => (cell_short h hxm j).say
   have hRl : ((sv ((t.kids.take i).map (lineS ws))).map PV.imm).length ≤ i := by
     unfold sv
     rw [List.length_map, List.length_map, List.length_map, List.length_take]
     omega
   have hOw : ((sv ((t.kids.take i).map (lineS ws))).map PV.imm).length + 1 ≤ most := by unfold most; omega
   have hRl2 := hRl
   rw [List.length_map] at hRl2
   have hjo : ∃ J : Nat → Str, lineS ws x = J n ∧ (∀ k, k ≤ 60 → (J k).size ≤ 1818180) ∧ J 0 = ⟨#[]⟩ ∧ J 1 = cellS ws x 0 ∧ ∀ k, 0 < k → J (k + 1) = J k ++ (⟨#[32, 124, 32]⟩ : Str) ++ cellS ws x k :=
     ⟨fun k => joinS bar (cellsS ws x k), by unfold lineS cellsS; rw [hxl], fun k hk => cellsS_size hk hss hws, joinS_nil bar, joinS_one bar _, fun k hk => by
       show joinS bar (cellsS ws x (k + 1)) = _
       rw [cellsS_succ, joinS_snoc (cellsS_ne (Nat.ne_of_gt hk))]
       rfl⟩
   obtain ⟨J, hli, hJ, hj0, hj1, hjs⟩ := hjo
   (try (conv => whnf)); (repeat ((first | refine qT ?_ | refine qF ?_ | refine qO ?_ | (with_reducible intro z hz); (first | (replace hz := hz (by omega); subst hz) | subst hz)); (try (conv => whnf))))
   refine hLP _ _ _ Nat (fun k => ⟨[(1, .ptr 0 1 0), (3, .row 1 1), (4, .imm (.int .i64 (t.kids.length : Nat))), (5, .imm (.int .i64 (n : Nat))), (6, .imm (.sl 1 (zv ws))), (7, .imm (.int .i64 (i : Nat))), (8, .imm (.str (J k))), (9, .imm (.int .i64 (k : Nat)))], [.box 1 [.imm (.int .i64 t.id.x), .imm (.int .i64 t.id.y), .imm (.int .i64 t.id.z), .imm (.int .i64 t.kind), .imm (.str t.label), .imm (.sl 4 (t.head.map wdv)), .imm (.sl 4 (t.words.map wdv)), .imm (.sl 8 (t.kids.map uv))], .row 9 1 1 ((sv ((t.kids.take i).map (lineS ws))).map .imm)]⟩) (fun k => k ≤ n) (fun k => n - k) 0 (Nat.zero_le _) (qSL 2 rfl rfl (hE := by (repeat ((conv => whnf); first | exact trivial | refine And.intro (by first | exact WkOne.any | exact WkOne.eq (by with_reducible rfl) rfl | exact WkOne.eq (congrArg (fun z => PV.imm (IV.int IntKind.i64 z)) (by first | omega | (simp [hj0]; done) | (simp [hj0]; omega))) rfl | exact WkOne.eq (by first | (simp [hj0]; done) | fail) rfl | exact WkOne.eq rfl rfl | exact WkOne.le rfl (ILe.nil _)) ?_)))) ?_
   intro k hk
   have hho := Nat.lt_or_ge k n
   cases hho with
   | inl hkt =>
     refine (?_ : ∀ Q : Exit → AS → Prop, vcS _ _ _ _ _ _ _ (loopQA _ _ _ _ _ _ Q)) _
     intro Q
     obtain ⟨y, hy⟩ : ∃ y, x.kids[k]? = some y := ⟨x.kids[k]'(by omega), List.getElem?_eq_getElem (by omega)⟩
     have huy := uv_eq y
     have hcw : cellW x k = y.words := by unfold cellW; rw [hy]; rfl
     have hSy := rsay_pc y.words (by rw [← hcw]; exact cell_short h hxm k)
     have hsk := hss k
     have hwk := hws k
     have hwak := hwa k hkt
     have hJk := hJ k (by omega)
     have hcs : cellS ws x k = if k + 1 < n then pad (say (cellW x k)) (ws.getD k 0 - (say (cellW x k)).size) else say (cellW x k) := by unfold cellS; rw [hxl]
     have hjk1 := hjs k
     rw [hcw] at hsk hcs
     generalize say y.words = c at hSy hsk hcs
     generalize ws.getD k 0 = w at hwk hwak hcs
     have hh0 := Nat.eq_zero_or_pos k
     cases hh0 with
     | inl h0 =>
       have hq : J (k + 1) = J k ++ cellS ws x k := by
         rw [h0, hj0, nil_app]
         exact hj1
       (try (conv => whnf)); (repeat ((first | refine qT ?_ | refine qF ?_ | refine qO ?_ | (with_reducible intro z hz); (first | (replace hz := hz (by omega); subst hz) | subst hz)); (try (conv => whnf))))
       refine Idx.mk i (uv x) _ rfl (by simp [hx]) (by rw [hux]; try rfl) ?_
       (try (conv => whnf)); (repeat ((first | refine qT ?_ | refine qF ?_ | refine qO ?_ | (with_reducible intro z hz); (first | (replace hz := hz (by omega); subst hz) | subst hz)); (try (conv => whnf))))
       refine Idx.mk k (uv y) _ rfl (by simp [hy]) (by rw [huy]; try rfl) ?_
       (try (conv => whnf)); (repeat ((first | refine qT ?_ | refine qF ?_ | refine qO ?_ | (with_reducible intro z hz); (first | (replace hz := hz (by omega); subst hz) | subst hz) | (refine CallV.mk _ (hC _ _ _ (PCw.of hSy)) (fun js hjs => ?_); subst hjs)); (try (conv => whnf))))
       have hh1 := Nat.lt_or_ge (k + 1) n
       cases hh1 with
       | inl h1 =>
         rw [if_pos h1] at hcs
         rw [hcs] at hq
         have hpo : ∃ P : Nat → Str, P (w - c.size) = pad c (w - c.size) ∧ P 0 = c ∧ (∀ j, (P j).size = c.size + j) ∧ ∀ j, P (j + 1) = P j ++ (⟨#[32]⟩ : Str) := ⟨pad c, rfl, pad_zero c, pad_size c, pad_succ c⟩
         obtain ⟨P, hPw, hP0, hPz, hPs⟩ := hpo
         rw [← hPw] at hq
         clear hPw hcs
         refine hLP _ _ _ Nat (fun j => ⟨[(1, .ptr 0 1 0), (3, .row 1 1), (4, .imm (.int .i64 (t.kids.length : Nat))), (5, .imm (.int .i64 (n : Nat))), (6, .imm (.sl 1 (zv ws))), (7, .imm (.int .i64 (i : Nat))), (8, .imm (.str (J k))), (9, .imm (.int .i64 (k : Nat))), (10, .imm (.str (P j)))], [.box 1 [.imm (.int .i64 t.id.x), .imm (.int .i64 t.id.y), .imm (.int .i64 t.id.z), .imm (.int .i64 t.kind), .imm (.str t.label), .imm (.sl 4 (t.head.map wdv)), .imm (.sl 4 (t.words.map wdv)), .imm (.sl 8 (t.kids.map uv))], .row 9 1 1 ((sv ((t.kids.take i).map (lineS ws))).map .imm)]⟩) (fun j => j ≤ w - c.size) (fun j => w - c.size - j) 0 (Nat.zero_le _) (qSL 2 rfl rfl (hE := by (repeat ((conv => whnf); first | exact trivial | refine And.intro (by first | exact WkOne.any | exact WkOne.eq (by with_reducible rfl) rfl | exact WkOne.eq (congrArg (fun z => PV.imm (IV.int IntKind.i64 z)) (by first | omega | (simp [hP0]; done) | (simp [hP0]; omega))) rfl | exact WkOne.eq (by first | (simp [hP0]; done) | fail) rfl | exact WkOne.eq rfl rfl | exact WkOne.le rfl (ILe.nil _)) ?_)))) ?_
         intro j hj
         have hpz := hPz j
         have hho := Nat.lt_or_ge j (w - c.size)
         cases hho with
         | inl hjt =>
           have hz3 : (⟨#[32]⟩ : Str).size = 1 := rfl
           have hpe := hPs j
           (try (conv => whnf)); (repeat ((first | refine qT ?_ | refine qF ?_ | refine qO ?_ | (with_reducible intro z hz); (first | (replace hz := hz (by omega); subst hz) | subst hz)); (try (conv => whnf))))
           refine Idx.mk k (.int .i64 (w : Nat)) _ rfl (by simp [zv, hwak]) rfl ?_
           (try (conv => whnf)); (repeat ((first | refine qT ?_ | refine qF ?_ | refine qO ?_ | (with_reducible intro z hz); (first | (replace hz := hz (by omega); subst hz) | subst hz)); (try (conv => whnf))))
           exact ⟨j + 1, by omega, by dsimp only; omega, (qSL 2 rfl rfl (hE := by (repeat ((conv => whnf); first | exact trivial | refine And.intro (by first | exact WkOne.any | exact WkOne.eq (by with_reducible rfl) rfl | exact WkOne.eq (congrArg (fun z => PV.imm (IV.int IntKind.i64 z)) (by first | omega | (simp [hpe]; done) | (simp [hpe]; omega))) rfl | exact WkOne.eq (by first | (simp [hpe]; done) | fail) rfl | exact WkOne.eq rfl rfl | exact WkOne.le rfl (ILe.nil _)) ?_))))⟩
         | inr hjg =>
           have hje : w - c.size = j := by omega
           rw [hje] at hq
           (try (conv => whnf)); (repeat ((first | refine qT ?_ | refine qF ?_ | refine qO ?_ | (with_reducible intro z hz); (first | (replace hz := hz (by omega); subst hz) | subst hz)); (try (conv => whnf))))
           refine Idx.mk k (.int .i64 (w : Nat)) _ rfl (by simp [zv, hwak]) rfl ?_
           (try (conv => whnf)); (repeat ((first | refine qT ?_ | refine qF ?_ | refine qO ?_ | (with_reducible intro z hz); (first | (replace hz := hz (by omega); subst hz) | subst hz)); (try (conv => whnf))))
           exact ⟨k + 1, by omega, by dsimp only; omega, (qSL 2 rfl rfl (hE := by (repeat ((conv => whnf); first | exact trivial | refine And.intro (by first | exact WkOne.any | exact WkOne.eq (by with_reducible rfl) rfl | exact WkOne.eq (congrArg (fun z => PV.imm (IV.int IntKind.i64 z)) (by first | omega | (simp [hq]; done) | (simp [hq]; omega))) rfl | exact WkOne.eq (by first | (simp [hq]; done) | fail) rfl | exact WkOne.eq rfl rfl | exact WkOne.le rfl (ILe.nil _)) ?_))))⟩
       | inr h1 =>
         rw [if_neg (Nat.not_lt.2 h1)] at hcs
         rw [hcs] at hq
         refine hLP _ _ _ Unit (fun _ => ⟨[(1, .ptr 0 1 0), (3, .row 1 1), (4, .imm (.int .i64 (t.kids.length : Nat))), (5, .imm (.int .i64 (n : Nat))), (6, .imm (.sl 1 (zv ws))), (7, .imm (.int .i64 (i : Nat))), (8, .imm (.str (J k))), (9, .imm (.int .i64 (k : Nat))), (10, .imm (.str c))], [.box 1 [.imm (.int .i64 t.id.x), .imm (.int .i64 t.id.y), .imm (.int .i64 t.id.z), .imm (.int .i64 t.kind), .imm (.str t.label), .imm (.sl 4 (t.head.map wdv)), .imm (.sl 4 (t.words.map wdv)), .imm (.sl 8 (t.kids.map uv))], .row 9 1 1 ((sv ((t.kids.take i).map (lineS ws))).map .imm)]⟩) (fun _ => True) (fun _ => 0) () trivial (qSL 2 rfl rfl) ?_
         intro _ _
         (try (conv => whnf)); (repeat ((first | refine qT ?_ | refine qF ?_ | refine qO ?_ | (with_reducible intro z hz); (first | (replace hz := hz (by omega); subst hz) | subst hz)); (try (conv => whnf))))
         exact ⟨k + 1, by omega, by dsimp only; omega, (qSL 2 rfl rfl (hE := by (repeat ((conv => whnf); first | exact trivial | refine And.intro (by first | exact WkOne.any | exact WkOne.eq (by with_reducible rfl) rfl | exact WkOne.eq (congrArg (fun z => PV.imm (IV.int IntKind.i64 z)) (by first | omega | (simp [hq]; done) | (simp [hq]; omega))) rfl | exact WkOne.eq (by first | (simp [hq]; done) | fail) rfl | exact WkOne.eq rfl rfl | exact WkOne.le rfl (ILe.nil _)) ?_))))⟩
     | inr h0 =>
       have hq : J (k + 1) = J k ++ (⟨#[32, 124, 32]⟩ : Str) ++ cellS ws x k := hjk1 h0
       have hz1 : (⟨#[32, 124, 32]⟩ : Str).size = 3 := rfl
       have hz2 : (J k ++ (⟨#[32, 124, 32]⟩ : Str)).size ≤ 1818183 := by rw [ByteArray.size_append]; omega
       (try (conv => whnf)); (repeat ((first | refine qT ?_ | refine qF ?_ | refine qO ?_ | (with_reducible intro z hz); (first | (replace hz := hz (by omega); subst hz) | subst hz)); (try (conv => whnf))))
       refine Idx.mk i (uv x) _ rfl (by simp [hx]) (by rw [hux]; try rfl) ?_
       (try (conv => whnf)); (repeat ((first | refine qT ?_ | refine qF ?_ | refine qO ?_ | (with_reducible intro z hz); (first | (replace hz := hz (by omega); subst hz) | subst hz)); (try (conv => whnf))))
       refine Idx.mk k (uv y) _ rfl (by simp [hy]) (by rw [huy]; try rfl) ?_
       (try (conv => whnf)); (repeat ((first | refine qT ?_ | refine qF ?_ | refine qO ?_ | (with_reducible intro z hz); (first | (replace hz := hz (by omega); subst hz) | subst hz) | (refine CallV.mk _ (hC _ _ _ (PCw.of hSy)) (fun js hjs => ?_); subst hjs)); (try (conv => whnf))))
       have hh1 := Nat.lt_or_ge (k + 1) n
       cases hh1 with
       | inl h1 =>
         rw [if_pos h1] at hcs
         rw [hcs] at hq
         have hpo : ∃ P : Nat → Str, P (w - c.size) = pad c (w - c.size) ∧ P 0 = c ∧ (∀ j, (P j).size = c.size + j) ∧ ∀ j, P (j + 1) = P j ++ (⟨#[32]⟩ : Str) := ⟨pad c, rfl, pad_zero c, pad_size c, pad_succ c⟩
         obtain ⟨P, hPw, hP0, hPz, hPs⟩ := hpo
         rw [← hPw] at hq
         clear hPw hcs
         refine hLP _ _ _ Nat (fun j => ⟨[(1, .ptr 0 1 0), (3, .row 1 1), (4, .imm (.int .i64 (t.kids.length : Nat))), (5, .imm (.int .i64 (n : Nat))), (6, .imm (.sl 1 (zv ws))), (7, .imm (.int .i64 (i : Nat))), (8, .imm (.str (J k ++ (⟨#[32, 124, 32]⟩ : Str)))), (9, .imm (.int .i64 (k : Nat))), (10, .imm (.str (P j)))], [.box 1 [.imm (.int .i64 t.id.x), .imm (.int .i64 t.id.y), .imm (.int .i64 t.id.z), .imm (.int .i64 t.kind), .imm (.str t.label), .imm (.sl 4 (t.head.map wdv)), .imm (.sl 4 (t.words.map wdv)), .imm (.sl 8 (t.kids.map uv))], .row 9 1 1 ((sv ((t.kids.take i).map (lineS ws))).map .imm)]⟩) (fun j => j ≤ w - c.size) (fun j => w - c.size - j) 0 (Nat.zero_le _) (qSL 2 rfl rfl (hE := by (repeat ((conv => whnf); first | exact trivial | refine And.intro (by first | exact WkOne.any | exact WkOne.eq (by with_reducible rfl) rfl | exact WkOne.eq (congrArg (fun z => PV.imm (IV.int IntKind.i64 z)) (by first | omega | (simp [hP0]; done) | (simp [hP0]; omega))) rfl | exact WkOne.eq (by first | (simp [hP0]; done) | fail) rfl | exact WkOne.eq rfl rfl | exact WkOne.le rfl (ILe.nil _)) ?_)))) ?_
         intro j hj
         have hpz := hPz j
         have hho := Nat.lt_or_ge j (w - c.size)
         cases hho with
         | inl hjt =>
           have hz3 : (⟨#[32]⟩ : Str).size = 1 := rfl
           have hpe := hPs j
           (try (conv => whnf)); (repeat ((first | refine qT ?_ | refine qF ?_ | refine qO ?_ | (with_reducible intro z hz); (first | (replace hz := hz (by omega); subst hz) | subst hz)); (try (conv => whnf))))
           refine Idx.mk k (.int .i64 (w : Nat)) _ rfl (by simp [zv, hwak]) rfl ?_
           (try (conv => whnf)); (repeat ((first | refine qT ?_ | refine qF ?_ | refine qO ?_ | (with_reducible intro z hz); (first | (replace hz := hz (by omega); subst hz) | subst hz)); (try (conv => whnf))))
           exact ⟨j + 1, by omega, by dsimp only; omega, (qSL 2 rfl rfl (hE := by (repeat ((conv => whnf); first | exact trivial | refine And.intro (by first | exact WkOne.any | exact WkOne.eq (by with_reducible rfl) rfl | exact WkOne.eq (congrArg (fun z => PV.imm (IV.int IntKind.i64 z)) (by first | omega | (simp [hpe]; done) | (simp [hpe]; omega))) rfl | exact WkOne.eq (by first | (simp [hpe]; done) | fail) rfl | exact WkOne.eq rfl rfl | exact WkOne.le rfl (ILe.nil _)) ?_))))⟩
         | inr hjg =>
           have hje : w - c.size = j := by omega
           rw [hje] at hq
           (try (conv => whnf)); (repeat ((first | refine qT ?_ | refine qF ?_ | refine qO ?_ | (with_reducible intro z hz); (first | (replace hz := hz (by omega); subst hz) | subst hz)); (try (conv => whnf))))
           refine Idx.mk k (.int .i64 (w : Nat)) _ rfl (by simp [zv, hwak]) rfl ?_
           (try (conv => whnf)); (repeat ((first | refine qT ?_ | refine qF ?_ | refine qO ?_ | (with_reducible intro z hz); (first | (replace hz := hz (by omega); subst hz) | subst hz)); (try (conv => whnf))))
           exact ⟨k + 1, by omega, by dsimp only; omega, (qSL 2 rfl rfl (hE := by (repeat ((conv => whnf); first | exact trivial | refine And.intro (by first | exact WkOne.any | exact WkOne.eq (by with_reducible rfl) rfl | exact WkOne.eq (congrArg (fun z => PV.imm (IV.int IntKind.i64 z)) (by first | omega | (simp [hq]; done) | (simp [hq]; omega))) rfl | exact WkOne.eq (by first | (simp [hq]; done) | fail) rfl | exact WkOne.eq rfl rfl | exact WkOne.le rfl (ILe.nil _)) ?_))))⟩
       | inr h1 =>
         rw [if_neg (Nat.not_lt.2 h1)] at hcs
         rw [hcs] at hq
         refine hLP _ _ _ Unit (fun _ => ⟨[(1, .ptr 0 1 0), (3, .row 1 1), (4, .imm (.int .i64 (t.kids.length : Nat))), (5, .imm (.int .i64 (n : Nat))), (6, .imm (.sl 1 (zv ws))), (7, .imm (.int .i64 (i : Nat))), (8, .imm (.str (J k ++ (⟨#[32, 124, 32]⟩ : Str)))), (9, .imm (.int .i64 (k : Nat))), (10, .imm (.str c))], [.box 1 [.imm (.int .i64 t.id.x), .imm (.int .i64 t.id.y), .imm (.int .i64 t.id.z), .imm (.int .i64 t.kind), .imm (.str t.label), .imm (.sl 4 (t.head.map wdv)), .imm (.sl 4 (t.words.map wdv)), .imm (.sl 8 (t.kids.map uv))], .row 9 1 1 ((sv ((t.kids.take i).map (lineS ws))).map .imm)]⟩) (fun _ => True) (fun _ => 0) () trivial (qSL 2 rfl rfl) ?_
         intro _ _
         (try (conv => whnf)); (repeat ((first | refine qT ?_ | refine qF ?_ | refine qO ?_ | (with_reducible intro z hz); (first | (replace hz := hz (by omega); subst hz) | subst hz)); (try (conv => whnf))))
         exact ⟨k + 1, by omega, by dsimp only; omega, (qSL 2 rfl rfl (hE := by (repeat ((conv => whnf); first | exact trivial | refine And.intro (by first | exact WkOne.any | exact WkOne.eq (by with_reducible rfl) rfl | exact WkOne.eq (congrArg (fun z => PV.imm (IV.int IntKind.i64 z)) (by first | omega | (simp [hq]; done) | (simp [hq]; omega))) rfl | exact WkOne.eq (by first | (simp [hq]; done) | fail) rfl | exact WkOne.eq rfl rfl | exact WkOne.le rfl (ILe.nil _)) ?_))))⟩
   | inr hkg =>
     have hkn : n = k := by omega
     rw [hkn] at hli
     (try (conv => whnf)); (repeat ((first | refine qT ?_ | refine qF ?_ | refine qO ?_ | (with_reducible intro z hz); (first | (replace hz := hz (by omega); subst hz) | subst hz)); (try (conv => whnf))))
     exact ⟨i + 1, by omega, by dsimp only; omega, ((WeakA.row 1 (((sv ((t.kids.take (i + 1)).map (lineS ws))).map .imm)) rfl (by rw [take_at hx]; simp [sv, hli]))).trans ((WeakA.renew 1 1 rfl (by first | omega | (intro _; rw [hk0 _ _ rfl]; exact Nat.le_of_ble_eq_true rfl)) (by repeat (first | exact trivial | refine And.intro (rgL_imms _ _ _ _) ?_ | refine And.intro rfl ?_))).trans (qSL 2 rfl rfl))⟩
 | inr hge =>
   obtain rfl : i = t.kids.length := by omega
   (try (conv => whnf)); (repeat ((first | refine qT ?_ | refine qF ?_ | refine qO ?_ | (with_reducible intro z hz); (first | (replace hz := hz (by omega); subst hz) | subst hz)); (try (conv => whnf))))
   refine Imms.mk (sv (t.kids.map (lineS ws))) (by rw [List.take_length]) ?_
   exact hfin _ (ILes.refl _)
end Go.Proofs.Ytaciihgejkhlnaa.Pb
