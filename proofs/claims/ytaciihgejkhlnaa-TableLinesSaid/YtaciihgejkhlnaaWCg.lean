/-
  The reference's Say, Column, Wide.
-/
import Derived.Test.YtaciihgejkhlnaaWCe
namespace Go.Proofs.Ytaciihgejkhlnaa.Pb
open Go Go.Pv Go.RowKit
set_option linter.unusedSimpArgs false
open Lab Lcs Go.Proofs.Ytaciihgejkhlnaa Go.Proofs.Ytaciihgejkhlnaa.Pu Go.Proofs.Ytaciihgejkhlnaa.Pt
set_option maxRecDepth 10000
set_option maxHeartbeats 8000000
theorem say_nil : say [] = ⟨#[]⟩ := joinS_nil sp
theorem nil_app (s : Str) : (⟨#[]⟩ : Str) ++ s = s := str_ext (by rw [app_list]; rfl)
def shortW (l : List Wd) : Prop := l.length ≤ 300 ∧ ∀ a ∈ l, a.text.size ≤ 100
theorem shortW.take {l : List Wd} (h : shortW l) (k : Nat) : (say (l.take k)).size ≤ 30300 := by
 have h1 := say_size (l := l.take k) fun a ha => h.2 a (List.mem_of_mem_take ha)
 have h2 : (l.take k).length ≤ 300 := by rw [List.length_take]; have := h.1; omega
 omega
theorem shortW.say {l : List Wd} (h : shortW l) : (Pb.say l).size ≤ 30300 := by
 have := h.take l.length
 rw [List.take_length] at this
 exact this
theorem rsay_pc (l : List Wd) (h : shortW l) : PC Try.prog env0 33 [.sl 4 (l.map wdv)] [.str (say l)] := by
 have hml : (l.map wdv).length = l.length := List.length_map _
 have hl := h.1
 have hs1 : (⟨#[32]⟩ : Str).size = 1 := rfl
 refine PC.of_va (T := tb0) eqs_ok tb_ok rfl mixed Try.func33 rfl rfl (Nat.le_of_ble_eq_true rfl) ?_; intro Γ C WK LP fin h0 hW hC hB hR hLP hfin
 (try (conv => whnf)); (repeat ((first | refine qT ?_ | refine qF ?_ | refine qO ?_ | (with_reducible intro z hz); (first | (replace hz := hz (by omega); subst hz) | subst hz)); (try (conv => whnf))))
 refine hLP _ _ _ Nat (fun k => ⟨[(0, .imm (.sl 4 (l.map wdv))), (3, .imm (.str (say (l.take k)))), (4, .imm (.int .i64 (k : Nat)))], []⟩) (fun k => k ≤ l.length) (fun k => l.length - k) 0 (Nat.zero_le _) (qSL 0 rfl rfl (hE := by (repeat ((conv => whnf); first | exact trivial | refine And.intro (by first | exact WkOne.any | exact WkOne.eq (by with_reducible rfl) rfl | exact WkOne.eq (congrArg (fun z => PV.imm (IV.int IntKind.i64 z)) (by first | omega | (simp [List.take_zero, say_nil]; done) | (simp [List.take_zero, say_nil]; omega))) rfl | exact WkOne.eq (by first | (simp [List.take_zero, say_nil]; done) | fail) rfl | exact WkOne.eq rfl rfl | exact WkOne.le rfl (ILe.nil _)) ?_)))) ?_
 intro k hk
 have hho := Nat.lt_or_ge k l.length
 cases hho with
 | inl hlt =>
   obtain ⟨a, ha⟩ : ∃ a, l[k]? = some a := ⟨l[k], List.getElem?_eq_getElem hlt⟩
   have ha1 := h.2 a (List.mem_of_getElem? ha)
   have hz := h.take k
   by_cases h0 : k = 0
   · subst h0
     have hq : say (l.take (0 + 1)) = say (l.take 0) ++ a.text := by
       rw [take_at ha, List.take_zero, List.nil_append, say_one, say_nil, nil_app]
     (try (conv => whnf)); (repeat ((first | refine qT ?_ | refine qF ?_ | refine qO ?_ | (with_reducible intro z hz); (first | (replace hz := hz (by omega); subst hz) | subst hz)); (try (conv => whnf))))
     refine Idx.mk 0 (wdv a) _ rfl (by simp [ha]) rfl ?_
     (try (conv => whnf)); (repeat ((first | refine qT ?_ | refine qF ?_ | refine qO ?_ | (with_reducible intro z hz); (first | (replace hz := hz (by omega); subst hz) | subst hz)); (try (conv => whnf))))
     exact ⟨0 + 1, by omega, by dsimp only; omega, (qSL 0 rfl rfl (hE := by (repeat ((conv => whnf); first | exact trivial | refine And.intro (by first | exact WkOne.any | exact WkOne.eq (by with_reducible rfl) rfl | exact WkOne.eq (congrArg (fun z => PV.imm (IV.int IntKind.i64 z)) (by first | omega | (simp [hq]; done) | (simp [hq]; omega))) rfl | exact WkOne.eq (by first | (simp [hq]; done) | fail) rfl | exact WkOne.eq rfl rfl | exact WkOne.le rfl (ILe.nil _)) ?_))))⟩
   · have hne : l.take k ≠ [] := fun e => by
       have := congrArg List.length e
       rw [List.length_take] at this
       simp only [List.length_nil] at this
       omega
     have hq : say (l.take (k + 1)) = say (l.take k) ++ (⟨#[32]⟩ : Str) ++ a.text := by
       rw [take_at ha, say_snoc hne]
       rfl
     have hz2 : (say (l.take k) ++ (⟨#[32]⟩ : Str)).size ≤ 30301 := by rw [ByteArray.size_append]; omega
     (try (conv => whnf)); (repeat ((first | refine qT ?_ | refine qF ?_ | refine qO ?_ | (with_reducible intro z hz); (first | (replace hz := hz (by omega); subst hz) | subst hz)); (try (conv => whnf))))
     refine Idx.mk k (wdv a) _ rfl (by simp [ha]) rfl ?_
     (try (conv => whnf)); (repeat ((first | refine qT ?_ | refine qF ?_ | refine qO ?_ | (with_reducible intro z hz); (first | (replace hz := hz (by omega); subst hz) | subst hz)); (try (conv => whnf))))
     exact ⟨k + 1, by omega, by dsimp only; omega, (qSL 0 rfl rfl (hE := by (repeat ((conv => whnf); first | exact trivial | refine And.intro (by first | exact WkOne.any | exact WkOne.eq (by with_reducible rfl) rfl | exact WkOne.eq (congrArg (fun z => PV.imm (IV.int IntKind.i64 z)) (by first | omega | (simp [hq]; done) | (simp [hq]; omega))) rfl | exact WkOne.eq (by first | (simp [hq]; done) | fail) rfl | exact WkOne.eq rfl rfl | exact WkOne.le rfl (ILe.nil _)) ?_))))⟩
 | inr hge =>
   obtain rfl : k = l.length := by omega
   (try (conv => whnf)); (repeat ((first | refine qT ?_ | refine qF ?_ | refine qO ?_ | (with_reducible intro z hz); (first | (replace hz := hz (by omega); subst hz) | subst hz)); (try (conv => whnf))))
   refine hfin _ ?_
   rw [List.take_length]
   exact ILes.refl _
theorem cell_short {t r : Ut} (h : Smal t) (hr : r ∈ t.kids) (j : Nat) : shortW (cellW r j) := by
 unfold cellW
 cases hc : r.kids[j]? with
 | none => exact ⟨Nat.zero_le _, fun a ha => by cases ha⟩
 | some y =>
   have := (h.kid hr).kid (List.mem_of_getElem? hc) y (all_self y)
   exact this.2
def colC (t : Ut) (c : Int) : List Str := if hasB t 0 c = true then colL t c.toNat else []
theorem colC_len {t : Ut} (h : Smal t) (c : Int) : (colC t c).length ≤ 60 := by
 unfold colC
 split
 · unfold colL; rw [List.length_map]; exact h.kids
 · simp
theorem rcol_pc (t : Ut) (h : Smal t) (c : Int) : PC Try.prog env0 22 [uv t, .int .i64 c] [.sl 1 (sv (colC t c))] := by
 have hH := rhas_pc t h 0 c
 have hte := uv_eq t
 have hml : (t.kids.map uv).length = t.kids.length := List.length_map _
 have hl := h.kids
 unfold colC
 by_cases hb : hasB t 0 c = true
 rotate_left
 · rw [if_neg hb]
   rw [Bool.not_eq_true] at hb
   rw [hb] at hH
   rw [hte] at hH ⊢
   refine PC.of_va (T := tb0) eqs_ok tb_ok rfl mixed Try.func22 rfl rfl (Nat.le_of_ble_eq_true rfl) ?_; intro Γ C WK LP fin h0 hW hC hB hR hLP hfin
   (try (conv => whnf)); (repeat ((first | refine qT ?_ | refine qF ?_ | refine qO ?_ | (with_reducible intro z hz); (first | (replace hz := hz (by omega); subst hz) | subst hz) | (refine CallV.mk _ (hC _ _ _ (PCw.of hH)) (fun js hjs => ?_); subst hjs)); (try (conv => whnf))))
   refine Imms.mk [] rfl ?_
   exact hfin _ (ILes.refl _)
 obtain ⟨_, j, _, _, _, rfl, hv, _, _⟩ := has_at hb
 have hjc : j < colsN t := by
   unfold hasB colsV at hb
   rw [if_pos hv] at hb
   simp only [Bool.and_eq_true, decide_eq_true_eq] at hb
   omega
 rw [if_pos hb, Int.toNat_natCast]
 rw [hb] at hH
 rw [hte] at hH ⊢
 refine PC.of_va (T := tb0) eqs_ok tb_ok rfl mixed Try.func22 rfl rfl (Nat.le_of_ble_eq_true rfl) ?_; intro Γ C WK LP fin h0 hW hC hB hR hLP hfin
 (try (conv => whnf)); (repeat ((first | refine qT ?_ | refine qF ?_ | refine qO ?_ | (with_reducible intro z hz); (first | (replace hz := hz (by omega); subst hz) | subst hz) | (refine CallV.mk _ (hC _ _ _ (PCw.of hH)) (fun js hjs => ?_); subst hjs)); (try (conv => whnf))))
 refine hLP _ _ _ Nat (fun k => ⟨[(1, .imm (.int .i64 (j : Nat))), (2, .ptr 0 1 0), (5, .row 1 1), (6, .imm (.int .i64 (k : Nat)))], [.box 1 [.imm (.int .i64 t.id.x), .imm (.int .i64 t.id.y), .imm (.int .i64 t.id.z), .imm (.int .i64 t.kind), .imm (.str t.label), .imm (.sl 4 (t.head.map wdv)), .imm (.sl 4 (t.words.map wdv)), .imm (.sl 8 (t.kids.map uv))], .row 9 1 1 ((sv ((t.kids.take k).map fun r => say (cellW r j))).map .imm)]⟩) (fun k => k ≤ t.kids.length) (fun k => t.kids.length - k) 0 (Nat.zero_le _) (((WeakA.row 1 (((sv ((t.kids.take 0).map fun r => say (cellW r j))).map .imm)) rfl (by simp [sv]))).trans (qSL 2 rfl rfl)) ?_
 intro k hk
 have hho := Nat.lt_or_ge k t.kids.length
 cases hho with
 | inl hlt =>
   obtain ⟨x, hx⟩ : ∃ x, t.kids[k]? = some x := ⟨t.kids[k], List.getElem?_eq_getElem hlt⟩
   have hux := uv_eq x
   have hxm := List.mem_of_getElem? hx
   have hxl := valid_row hv hxm
   have hmx : (x.kids.map uv).length = x.kids.length := List.length_map _
   obtain ⟨y, hy⟩ : ∃ y, x.kids[j]? = some y := ⟨x.kids[j]'(by omega), List.getElem?_eq_getElem (by omega)⟩
   have huy := uv_eq y
   have hcw : cellW x j = y.words := by unfold cellW; rw [hy]; rfl
   have hSy := rsay_pc y.words (by rw [← hcw]; exact cell_short h hxm j)
   have hRl : ((sv ((t.kids.take k).map fun r => say (cellW r j))).map PV.imm).length ≤ k := by
     unfold sv
     rw [List.length_map, List.length_map, List.length_map, List.length_take]
     omega
   have hOw : ((sv ((t.kids.take k).map fun r => say (cellW r j))).map PV.imm).length + 1 ≤ most := by unfold most; omega
   have hRl2 := hRl
   rw [List.length_map] at hRl2
   (try (conv => whnf)); (repeat ((first | refine qT ?_ | refine qF ?_ | refine qO ?_ | (with_reducible intro z hz); (first | (replace hz := hz (by omega); subst hz) | subst hz)); (try (conv => whnf))))
   refine Idx.mk k (uv x) _ rfl (by simp [hx]) (by rw [hux]; try rfl) ?_
   (try (conv => whnf)); (repeat ((first | refine qT ?_ | refine qF ?_ | refine qO ?_ | (with_reducible intro z hz); (first | (replace hz := hz (by omega); subst hz) | subst hz)); (try (conv => whnf))))
   refine Idx.mk j (uv y) _ rfl (by simp [hy]) (by rw [huy]; try rfl) ?_
   (try (conv => whnf)); (repeat ((first | refine qT ?_ | refine qF ?_ | refine qO ?_ | (with_reducible intro z hz); (first | (replace hz := hz (by omega); subst hz) | subst hz) | (refine CallV.mk _ (hC _ _ _ (PCw.of hSy)) (fun js hjs => ?_); subst hjs)); (try (conv => whnf))))
   exact ⟨k + 1, by omega, by dsimp only; omega, ((WeakA.row 1 (((sv ((t.kids.take (k + 1)).map fun r => say (cellW r j))).map .imm)) rfl (by rw [take_at hx]; simp [sv, hcw]))).trans ((WeakA.renew 1 1 rfl (by first | omega | (intro _; rw [hk0 _ _ rfl]; exact Nat.le_of_ble_eq_true rfl)) (by repeat (first | exact trivial | refine And.intro (rgL_imms _ _ _ _) ?_ | refine And.intro rfl ?_))).trans (qSL 2 rfl rfl))⟩
 | inr hge =>
   obtain rfl : k = t.kids.length := by omega
   (try (conv => whnf)); (repeat ((first | refine qT ?_ | refine qF ?_ | refine qO ?_ | (with_reducible intro z hz); (first | (replace hz := hz (by omega); subst hz) | subst hz)); (try (conv => whnf))))
   refine Imms.mk (sv (colL t j)) (by rw [List.take_length]; rfl) ?_
   exact hfin _ (ILes.refl _)
end Go.Proofs.Ytaciihgejkhlnaa.Pb
