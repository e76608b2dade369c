/-
  The reference's May, Size, Has; equal lists.
-/
import Derived.Test.YtdkalehijilchaaWCc
namespace Go.Proofs.Ytdkalehijilchaa.Pb
open Go Go.Pv Go.RowKit
set_option linter.unusedSimpArgs false
open Lab Lcs Go.Proofs.Ytdkalehijilchaa Go.Proofs.Ytdkalehijilchaa.Pu Go.Proofs.Ytdkalehijilchaa.Pt
set_option maxRecDepth 10000
set_option maxHeartbeats 8000000
def rOk (n : Nat) (r : Ut) : Bool := decide (r.kind = 5) && (decide (r.kids.length = n) && r.kids.all cellB)
theorem bad_ok {n : Nat} {r : Ut} : badR n r = !(rOk n r && (decide (0 < n) && decide (n ≤ 64))) := by
 have hall : (r.kids.any fun c => !cellB c) = !r.kids.all cellB := by rw [List.all_eq_not_any_not, Bool.not_not]
 unfold badR rowB numB rOk
 rw [hall, Bool.not_not]
 by_cases h : r.kids.length = n
 · subst h
   by_cases h1 : r.kind = 5 <;> by_cases h2 : 0 < r.kids.length <;> by_cases h3 : r.kids.length ≤ 64 <;> cases r.kids.all cellB <;> simp [h1, h2, h3]
 · simp [h]
theorem valid_bad {t x : Ut} (hx : x ∈ t.kids) (h : rOk (colsN t) x = false) : validT t = false := by
 unfold validT
 have : t.kids.any (badR (colsN t)) = true := List.any_eq_true.2 ⟨x, hx, by rw [bad_ok, h]; rfl⟩
 rw [this]
 simp
theorem valid_good {t : Ut} (hk : t.kind = 4) (hn : numB t.kids = true) (h : ∀ x ∈ t.kids, rOk (colsN t) x = true) : validT t = (decide (0 < colsN t) && decide (colsN t ≤ 64)) := by
 unfold validT
 rw [decide_eq_true hk, hn, Bool.true_and, Bool.true_and]
 have h0 : 0 < t.kids.length := by
   unfold numB at hn
   simp only [Bool.and_eq_true, decide_eq_true_eq] at hn
   exact hn.1
 generalize hb : (decide (0 < colsN t) && decide (colsN t ≤ 64)) = b
 cases b
 · have : t.kids.any (badR (colsN t)) = true := List.any_eq_true.2 ⟨t.kids[0], List.getElem_mem h0, by rw [bad_ok, hb]; simp⟩
   rw [this]
   rfl
 · have : t.kids.any (badR (colsN t)) = false := List.any_eq_false.2 fun x hx => by rw [bad_ok, hb, h x hx]; decide
   rw [this]
   rfl
theorem rmay_pc (t : Ut) (h : Smal t) : PC Try.prog env0 39 [uv t] [.bool (validT t)] := by
 have hl := h.kids
 have hte := uv_eq t
 have hml : (t.kids.map uv).length = t.kids.length := List.length_map _
 by_cases h1 : t.kind = 4
 rotate_left
 · have hE : validT t = false := by unfold validT; rw [decide_eq_false h1, Bool.false_and]
   rw [hE, hte]
   refine PC.of_va (T := tb0) eqs_ok tb_ok rfl mixed Try.func39 rfl rfl (Nat.le_of_ble_eq_true rfl) ?_; intro Γ C WK LP fin h0 hW hC hB hR hLP hfin
   (try (conv => whnf)); (repeat ((first | refine qT ?_ | refine qF ?_ | refine qO ?_ | (with_reducible intro z hz); (first | (replace hz := hz (by omega); subst hz) | subst hz)); (try (conv => whnf))))
   exact hfin _ (ILes.refl _)
 by_cases h0 : 0 < t.kids.length
 rotate_left
 · have hE : validT t = false := by unfold validT numB; rw [decide_eq_false h0]; simp
   rw [hE, hte]
   refine PC.of_va (T := tb0) eqs_ok tb_ok rfl mixed Try.func39 rfl rfl (Nat.le_of_ble_eq_true rfl) ?_; intro Γ C WK LP fin h0 hW hC hB hR hLP hfin
   (try (conv => whnf)); (repeat ((first | refine qT ?_ | refine qF ?_ | refine qO ?_ | (with_reducible intro z hz); (first | (replace hz := hz (by omega); subst hz) | subst hz)); (try (conv => whnf))))
   exact hfin _ (ILes.refl _)
 by_cases h64 : t.kids.length ≤ 64
 rotate_left
 · have hE : validT t = false := by unfold validT numB; rw [decide_eq_false h64]; simp
   rw [hE, hte]
   refine PC.of_va (T := tb0) eqs_ok tb_ok rfl mixed Try.func39 rfl rfl (Nat.le_of_ble_eq_true rfl) ?_; intro Γ C WK LP fin h0 hW hC hB hR hLP hfin
   (try (conv => whnf)); (repeat ((first | refine qT ?_ | refine qF ?_ | refine qO ?_ | (with_reducible intro z hz); (first | (replace hz := hz (by omega); subst hz) | subst hz)); (try (conv => whnf))))
   exact hfin _ (ILes.refl _)
 have hn : numB t.kids = true := by unfold numB; rw [decide_eq_true h0, decide_eq_true h64]; rfl
 obtain ⟨r0, hr0⟩ : ∃ r, t.kids[0]? = some r := ⟨t.kids[0], List.getElem?_eq_getElem h0⟩
 have hre := uv_eq r0
 have hmr : (r0.kids.map uv).length = r0.kids.length := List.length_map _
 have hcn : colsN t = r0.kids.length := by unfold colsN; rw [hr0]; rfl
 have hgood := valid_good h1 hn
 have hbad : ∀ x ∈ t.kids, rOk (colsN t) x = false → validT t = false := fun x hx e => valid_bad hx e
 rw [hcn] at hgood hbad
 have hc60 : r0.kids.length ≤ 60 := (h.kid (List.mem_of_getElem? hr0)).kids
 generalize validT t = v at hgood hbad ⊢
 rw [hte]
 refine PC.of_va (T := tb0) eqs_ok tb_ok rfl mixed Try.func39 rfl rfl (Nat.le_of_ble_eq_true rfl) ?_; intro Γ C WK LP fin h0 hW hC hB hR hLP hfin
 (try (conv => whnf)); (repeat ((first | refine qT ?_ | refine qF ?_ | refine qO ?_ | (with_reducible intro z hz); (first | (replace hz := hz (by omega); subst hz) | subst hz)); (try (conv => whnf))))
 refine Idx.mk 0 (uv r0) _ rfl (by simp [hr0]) (by rw [hre]; try rfl) ?_
 (try (conv => whnf)); (repeat ((first | refine qT ?_ | refine qF ?_ | refine qO ?_ | (with_reducible intro z hz); (first | (replace hz := hz (by omega); subst hz) | subst hz)); (try (conv => whnf))))
 rw [hmr]
 (try (conv => whnf)); (repeat ((first | refine qT ?_ | refine qF ?_ | refine qO ?_ | (with_reducible intro z hz); (first | (replace hz := hz (by omega); subst hz) | subst hz)); (try (conv => whnf))))
 generalize r0.kids.length = n at hgood hbad hc60 ⊢
 refine hLP _ _ _ Nat (fun k => ⟨[(1, .ptr 0 1 0), (3, .imm (.int .i64 (n : Nat))), (4, .imm (.int .i64 (k : Nat)))], [.box 1 [.imm (.int .i64 t.id.x), .imm (.int .i64 t.id.y), .imm (.int .i64 t.id.z), .imm (.int .i64 t.kind), .imm (.str t.label), .imm (.sl 4 (t.head.map wdv)), .imm (.sl 4 (t.words.map wdv)), .imm (.sl 8 (t.kids.map uv))]]⟩) (fun k => k ≤ t.kids.length ∧ ∀ x ∈ t.kids.take k, rOk n x = true) (fun k => t.kids.length - k) 0 ⟨Nat.zero_le _, by simp⟩ (qSL 1 rfl rfl) ?_
 rintro k ⟨hk, hp⟩
 have hho := Nat.lt_or_ge k t.kids.length
 cases hho with
 | inl hlt =>
   obtain ⟨x, hx⟩ : ∃ x, t.kids[k]? = some x := ⟨t.kids[k], List.getElem?_eq_getElem hlt⟩
   have hux := uv_eq x
   have hmx : (x.kids.map uv).length = x.kids.length := List.length_map _
   have hxm := List.mem_of_getElem? hx
   have hx60 := (h.kid hxm).kids
   by_cases k1 : x.kind = 5
   rotate_left
   · have hv := hbad x hxm (by unfold rOk; simp [k1])
     rw [hv] at hfin
     (try (conv => whnf)); (repeat ((first | refine qT ?_ | refine qF ?_ | refine qO ?_ | (with_reducible intro z hz); (first | (replace hz := hz (by omega); subst hz) | subst hz)); (try (conv => whnf))))
     refine Idx.mk k (uv x) _ rfl (by simp [hx]) (by rw [hux]; try rfl) ?_
     (try (conv => whnf)); (repeat ((first | refine qT ?_ | refine qF ?_ | refine qO ?_ | (with_reducible intro z hz); (first | (replace hz := hz (by omega); subst hz) | subst hz)); (try (conv => whnf))))
     exact hfin _ (ILes.refl _)
   by_cases k2 : x.kids.length = n
   rotate_left
   · have hv := hbad x hxm (by unfold rOk; simp [k2])
     rw [hv] at hfin
     (try (conv => whnf)); (repeat ((first | refine qT ?_ | refine qF ?_ | refine qO ?_ | (with_reducible intro z hz); (first | (replace hz := hz (by omega); subst hz) | subst hz)); (try (conv => whnf))))
     refine Idx.mk k (uv x) _ rfl (by simp [hx]) (by rw [hux]; try rfl) ?_
     (try (conv => whnf)); (repeat ((first | refine qT ?_ | refine qF ?_ | refine qO ?_ | (with_reducible intro z hz); (first | (replace hz := hz (by omega); subst hz) | subst hz)); (try (conv => whnf))))
     exact hfin _ (ILes.refl _)
   (try (conv => whnf)); (repeat ((first | refine qT ?_ | refine qF ?_ | refine qO ?_ | (with_reducible intro z hz); (first | (replace hz := hz (by omega); subst hz) | subst hz)); (try (conv => whnf))))
   refine Idx.mk k (uv x) _ rfl (by simp [hx]) (by rw [hux]; try rfl) ?_
   (try (conv => whnf)); (repeat ((first | refine qT ?_ | refine qF ?_ | refine qO ?_ | (with_reducible intro z hz); (first | (replace hz := hz (by omega); subst hz) | subst hz)); (try (conv => whnf))))
   refine hLP _ _ _ Nat (fun j => ⟨[(1, .ptr 0 1 0), (3, .imm (.int .i64 (n : Nat))), (4, .imm (.int .i64 (k : Nat))), (5, .ptr 1 1 0), (6, .imm (.int .i64 (j : Nat)))], [.box 1 [.imm (.int .i64 t.id.x), .imm (.int .i64 t.id.y), .imm (.int .i64 t.id.z), .imm (.int .i64 t.kind), .imm (.str t.label), .imm (.sl 4 (t.head.map wdv)), .imm (.sl 4 (t.words.map wdv)), .imm (.sl 8 (t.kids.map uv))], .box 1 [.imm (.int .i64 x.id.x), .imm (.int .i64 x.id.y), .imm (.int .i64 x.id.z), .imm (.int .i64 x.kind), .imm (.str x.label), .imm (.sl 4 (x.head.map wdv)), .imm (.sl 4 (x.words.map wdv)), .imm (.sl 8 (x.kids.map uv))]]⟩) (fun j => j ≤ n ∧ ∀ c ∈ x.kids.take j, cellB c = true) (fun j => n - j) 0 ⟨Nat.zero_le _, by simp⟩ (qSL 2 rfl rfl) ?_
   rintro j ⟨hj, hq⟩
   have hho := Nat.lt_or_ge j n
   cases hho with
   | inl hjt =>
     obtain ⟨c, hc⟩ : ∃ c, x.kids[j]? = some c := ⟨x.kids[j]'(by omega), List.getElem?_eq_getElem (by omega)⟩
     have huc := uv_eq c
     have hmc : (c.kids.map uv).length = c.kids.length := List.length_map _
     have hcb : cellB c = false → rOk n x = false := fun e => by
       have : x.kids.all cellB = false := by
         rw [List.all_eq_false]
         exact ⟨c, List.mem_of_getElem? hc, by rw [e]; decide⟩
       unfold rOk
       rw [this]
       simp
     by_cases m1 : c.kind = 6
     rotate_left
     · have hv := hbad x hxm (hcb (by unfold cellB; simp [m1]))
       rw [hv] at hfin
       (try (conv => whnf)); (repeat ((first | refine qT ?_ | refine qF ?_ | refine qO ?_ | (with_reducible intro z hz); (first | (replace hz := hz (by omega); subst hz) | subst hz)); (try (conv => whnf))))
       refine Idx.mk j (uv c) _ rfl (by simp [hc]) (by rw [huc]; try rfl) ?_
       (try (conv => whnf)); (repeat ((first | refine qT ?_ | refine qF ?_ | refine qO ?_ | (with_reducible intro z hz); (first | (replace hz := hz (by omega); subst hz) | subst hz)); (try (conv => whnf))))
       exact hfin _ (ILes.refl _)
     by_cases m2 : c.kids.length = 0
     rotate_left
     · have hv := hbad x hxm (hcb (by unfold cellB; simp [m2]))
       rw [hv] at hfin
       (try (conv => whnf)); (repeat ((first | refine qT ?_ | refine qF ?_ | refine qO ?_ | (with_reducible intro z hz); (first | (replace hz := hz (by omega); subst hz) | subst hz)); (try (conv => whnf))))
       refine Idx.mk j (uv c) _ rfl (by simp [hc]) (by rw [huc]; try rfl) ?_
       (try (conv => whnf)); (repeat ((first | refine qT ?_ | refine qF ?_ | refine qO ?_ | (with_reducible intro z hz); (first | (replace hz := hz (by omega); subst hz) | subst hz)); (try (conv => whnf))))
       refine Idx.mk j (uv c) _ rfl (by simp [hc]) (by rw [huc]; try rfl) ?_
       (try (conv => whnf)); (repeat ((first | refine qT ?_ | refine qF ?_ | refine qO ?_ | (with_reducible intro z hz); (first | (replace hz := hz (by omega); subst hz) | subst hz)); (try (conv => whnf))))
       exact hfin _ (ILes.refl _)
     (try (conv => whnf)); (repeat ((first | refine qT ?_ | refine qF ?_ | refine qO ?_ | (with_reducible intro z hz); (first | (replace hz := hz (by omega); subst hz) | subst hz)); (try (conv => whnf))))
     refine Idx.mk j (uv c) _ rfl (by simp [hc]) (by rw [huc]; try rfl) ?_
     (try (conv => whnf)); (repeat ((first | refine qT ?_ | refine qF ?_ | refine qO ?_ | (with_reducible intro z hz); (first | (replace hz := hz (by omega); subst hz) | subst hz)); (try (conv => whnf))))
     refine Idx.mk j (uv c) _ rfl (by simp [hc]) (by rw [huc]; try rfl) ?_
     (try (conv => whnf)); (repeat ((first | refine qT ?_ | refine qF ?_ | refine qO ?_ | (with_reducible intro z hz); (first | (replace hz := hz (by omega); subst hz) | subst hz)); (try (conv => whnf))))
     exact ⟨j + 1, ⟨by omega, fun y hy => by
       rw [take_at hc, List.mem_append] at hy
       rcases hy with hy | hy
       · exact hq y hy
       · rw [List.mem_singleton.1 hy]; unfold cellB; simp [m1, m2]⟩, by dsimp only; omega, (qSL 2 rfl rfl)⟩
   | inr hjg =>
     have hall : x.kids.all cellB = true := List.all_eq_true.2 fun y hy => hq y (by rw [List.take_of_length_le (by omega)]; exact hy)
     (try (conv => whnf)); (repeat ((first | refine qT ?_ | refine qF ?_ | refine qO ?_ | (with_reducible intro z hz); (first | (replace hz := hz (by omega); subst hz) | subst hz)); (try (conv => whnf))))
     exact ⟨k + 1, ⟨by omega, fun y hy => by
       rw [take_at hx, List.mem_append] at hy
       rcases hy with hy | hy
       · exact hp y hy
       · rw [List.mem_singleton.1 hy]; unfold rOk; simp [k1, k2, hall]⟩, by dsimp only; omega, (qSL 1 rfl rfl)⟩
 | inr hge =>
   obtain rfl : k = t.kids.length := by omega
   rw [List.take_length] at hp
   rw [hgood hp] at hfin
   by_cases m1 : 0 < n
   rotate_left
   · rw [decide_eq_false m1, Bool.false_and] at hfin
     (try (conv => whnf)); (repeat ((first | refine qT ?_ | refine qF ?_ | refine qO ?_ | (with_reducible intro z hz); (first | (replace hz := hz (by omega); subst hz) | subst hz)); (try (conv => whnf))))
     exact hfin _ (ILes.refl _)
   rw [decide_eq_true m1, Bool.true_and] at hfin
   by_cases m2 : n ≤ 64
   · rw [decide_eq_true m2] at hfin
     (try (conv => whnf)); (repeat ((first | refine qT ?_ | refine qF ?_ | refine qO ?_ | (with_reducible intro z hz); (first | (replace hz := hz (by omega); subst hz) | subst hz)); (try (conv => whnf))))
     exact hfin _ (ILes.refl _)
   · exfalso
     omega
theorem rsize_pc (t : Ut) (h : Smal t) : PC Try.prog env0 27 [uv t] [.int .i64 (rowsV t : Nat), .int .i64 (colsV t : Nat)] := by
 have hV := rmay_pc t h
 have hl := h.kids
 have hte := uv_eq t
 have hml : (t.kids.map uv).length = t.kids.length := List.length_map _
 unfold rowsV colsV
 by_cases hv : validT t = true
 · rw [if_pos hv, if_pos hv]
   obtain ⟨r, hr, hcn, h0⟩ := valid_some hv
   have hre := uv_eq r
   have hmr : (r.kids.map uv).length = r.kids.length := List.length_map _
   rw [hv] at hV
   rw [hcn]
   rw [hte] at hV ⊢
   refine PC.of_va (T := tb0) eqs_ok tb_ok rfl mixed Try.func27 rfl rfl (Nat.le_of_ble_eq_true rfl) ?_; intro Γ C WK LP fin h0 hW hC hB hR hLP hfin
   (try (conv => whnf)); (repeat ((first | refine qT ?_ | refine qF ?_ | refine qO ?_ | (with_reducible intro z hz); (first | (replace hz := hz (by omega); subst hz) | subst hz) | (refine CallV.mk _ (hC _ _ _ (PCw.of hV)) (fun js hjs => ?_); subst hjs)); (try (conv => whnf))))
   refine Idx.mk 0 (uv r) _ rfl (by simp [hr]) (by rw [hre]; try rfl) ?_
   (try (conv => whnf)); (repeat ((first | refine qT ?_ | refine qF ?_ | refine qO ?_ | (with_reducible intro z hz); (first | (replace hz := hz (by omega); subst hz) | subst hz)); (try (conv => whnf))))
   rw [hml, hmr]
   exact hfin _ (ILes.refl _)
 · rw [if_neg hv, if_neg hv]
   rw [Bool.not_eq_true] at hv
   rw [hv] at hV
   rw [hte] at hV ⊢
   refine PC.of_va (T := tb0) eqs_ok tb_ok rfl mixed Try.func27 rfl rfl (Nat.le_of_ble_eq_true rfl) ?_; intro Γ C WK LP fin h0 hW hC hB hR hLP hfin
   (try (conv => whnf)); (repeat ((first | refine qT ?_ | refine qF ?_ | refine qO ?_ | (with_reducible intro z hz); (first | (replace hz := hz (by omega); subst hz) | subst hz) | (refine CallV.mk _ (hC _ _ _ (PCw.of hV)) (fun js hjs => ?_); subst hjs)); (try (conv => whnf))))
   exact hfin _ (ILes.refl _)
theorem rhas_pc (t : Ut) (h : Smal t) (r c : Int) : PC Try.prog env0 10 [uv t, .int .i64 r, .int .i64 c] [.bool (hasB t r c)] := by
 have hZ := rsize_pc t h
 have hte := uv_eq t
 unfold hasB
 generalize rowsV t = n at hZ ⊢
 generalize colsV t = m at hZ ⊢
 rw [hte] at hZ ⊢
 by_cases h1 : 0 ≤ r
 rotate_left
 · rw [decide_eq_false h1, Bool.false_and]
   refine PC.of_va (T := tb0) eqs_ok tb_ok rfl mixed Try.func10 rfl rfl (Nat.le_of_ble_eq_true rfl) ?_; intro Γ C WK LP fin h0 hW hC hB hR hLP hfin
   (try (conv => whnf)); (repeat ((first | refine qT ?_ | refine qF ?_ | refine qO ?_ | (with_reducible intro z hz); (first | (replace hz := hz (by omega); subst hz) | subst hz) | (refine CallV.mk _ (hC _ _ _ (PCw.of hZ)) (fun js hjs => ?_); subst hjs)); (try (conv => whnf))))
   exact hfin _ (ILes.refl _)
 rw [decide_eq_true h1, Bool.true_and]
 by_cases h2 : r < (n : Int)
 rotate_left
 · rw [decide_eq_false h2, Bool.false_and]
   refine PC.of_va (T := tb0) eqs_ok tb_ok rfl mixed Try.func10 rfl rfl (Nat.le_of_ble_eq_true rfl) ?_; intro Γ C WK LP fin h0 hW hC hB hR hLP hfin
   (try (conv => whnf)); (repeat ((first | refine qT ?_ | refine qF ?_ | refine qO ?_ | (with_reducible intro z hz); (first | (replace hz := hz (by omega); subst hz) | subst hz) | (refine CallV.mk _ (hC _ _ _ (PCw.of hZ)) (fun js hjs => ?_); subst hjs)); (try (conv => whnf))))
   exact hfin _ (ILes.refl _)
 rw [decide_eq_true h2, Bool.true_and]
 by_cases h3 : 0 ≤ c
 rotate_left
 · rw [decide_eq_false h3, Bool.false_and]
   refine PC.of_va (T := tb0) eqs_ok tb_ok rfl mixed Try.func10 rfl rfl (Nat.le_of_ble_eq_true rfl) ?_; intro Γ C WK LP fin h0 hW hC hB hR hLP hfin
   (try (conv => whnf)); (repeat ((first | refine qT ?_ | refine qF ?_ | refine qO ?_ | (with_reducible intro z hz); (first | (replace hz := hz (by omega); subst hz) | subst hz) | (refine CallV.mk _ (hC _ _ _ (PCw.of hZ)) (fun js hjs => ?_); subst hjs)); (try (conv => whnf))))
   exact hfin _ (ILes.refl _)
 rw [decide_eq_true h3, Bool.true_and]
 by_cases h4 : c < (m : Int)
 · rw [decide_eq_true h4]
   refine PC.of_va (T := tb0) eqs_ok tb_ok rfl mixed Try.func10 rfl rfl (Nat.le_of_ble_eq_true rfl) ?_; intro Γ C WK LP fin h0 hW hC hB hR hLP hfin
   (try (conv => whnf)); (repeat ((first | refine qT ?_ | refine qF ?_ | refine qO ?_ | (with_reducible intro z hz); (first | (replace hz := hz (by omega); subst hz) | subst hz) | (refine CallV.mk _ (hC _ _ _ (PCw.of hZ)) (fun js hjs => ?_); subst hjs)); (try (conv => whnf))))
   exact hfin _ (ILes.refl _)
 · rw [decide_eq_false h4]
   refine PC.of_va (T := tb0) eqs_ok tb_ok rfl mixed Try.func10 rfl rfl (Nat.le_of_ble_eq_true rfl) ?_; intro Γ C WK LP fin h0 hW hC hB hR hLP hfin
   (try (conv => whnf)); (repeat ((first | refine qT ?_ | refine qF ?_ | refine qO ?_ | (with_reducible intro z hz); (first | (replace hz := hz (by omega); subst hz) | subst hz) | (refine CallV.mk _ (hC _ _ _ (PCw.of hZ)) (fun js hjs => ?_); subst hjs)); (try (conv => whnf))))
   exact hfin _ (ILes.refl _)
theorem word_eq {a b : Wd} (h : a = b) : eqC [.str a.text, .int .i64 a.mark.x, .int .i64 a.mark.y, .int .i64 a.mark.z] [.str b.text, .int .i64 b.mark.x, .int .i64 b.mark.y, .int .i64 b.mark.z] = true := by subst h; simp [eqC]
theorem word_ne {a b : Wd} (h : a ≠ b) : ¬ eqC [.str a.text, .int .i64 a.mark.x, .int .i64 a.mark.y, .int .i64 a.mark.z] [.str b.text, .int .i64 b.mark.x, .int .i64 b.mark.y, .int .i64 b.mark.z] = true := fun e => h (by
 obtain ⟨t, m⟩ := a
 obtain ⟨t2, m2⟩ := b
 cases m; cases m2
 simpa [eqC] using e)
theorem words_pc (a b : List Wd) (ha : a.length ≤ 100000000) : PC Try.prog env0 11 [.sl 4 (List.map wdv a), .sl 4 (List.map wdv b)] [.bool (decide (a = b))] := by
 have hma : (List.map wdv a).length = a.length := List.length_map _
 have hmb : (List.map wdv b).length = b.length := List.length_map _
 by_cases hl : a.length = b.length
 rotate_left
 · rw [decide_eq_false (fun e => hl (by rw [e]))]
   refine PC.of_va (T := tb0) eqs_ok tb_ok rfl mixed Try.func11 rfl rfl (Nat.le_of_ble_eq_true rfl) ?_; intro Γ C WK LP fin h0 hW hC hB hR hLP hfin
   (try (conv => whnf)); (repeat ((first | refine qT ?_ | refine qF ?_ | refine qO ?_ | (with_reducible intro z hz); (first | (replace hz := hz (by omega); subst hz) | subst hz)); (try (conv => whnf))))
   exact hfin _ (ILes.refl _)
 refine PC.of_va (T := tb0) eqs_ok tb_ok rfl mixed Try.func11 rfl rfl (Nat.le_of_ble_eq_true rfl) ?_; intro Γ C WK LP fin h0 hW hC hB hR hLP hfin
 (try (conv => whnf)); (repeat ((first | refine qT ?_ | refine qF ?_ | refine qO ?_ | (with_reducible intro z hz); (first | (replace hz := hz (by omega); subst hz) | subst hz)); (try (conv => whnf))))
 refine hLP _ _ _ Nat (fun k => ⟨[(0, .imm (.sl 4 (List.map wdv a))), (1, .imm (.sl 4 (List.map wdv b))), (5, .imm (.int .i64 (k : Nat)))], []⟩) (fun k => k ≤ a.length ∧ a.take k = b.take k) (fun k => a.length - k) 0 ⟨Nat.zero_le _, rfl⟩ (qSL 0 rfl rfl) ?_
 rintro k ⟨hk, hp⟩
 have hho := Nat.lt_or_ge k a.length
 cases hho with
 | inl hlt =>
   obtain ⟨x, hx⟩ : ∃ x, a[k]? = some x := ⟨a[k], List.getElem?_eq_getElem hlt⟩
   obtain ⟨y, hy⟩ : ∃ y, b[k]? = some y := ⟨b[k]'(by omega), List.getElem?_eq_getElem (by omega)⟩
   by_cases he : x = y
   · have hi := word_eq he
     (try (conv => whnf)); (repeat ((first | refine qT ?_ | refine qF ?_ | refine qO ?_ | (with_reducible intro z hz); (first | (replace hz := hz (by omega); subst hz) | subst hz)); (try (conv => whnf))))
     refine Idx.mk k (wdv x) _ rfl (by simp [hx]) rfl ?_
     (try (conv => whnf)); (repeat ((first | refine qT ?_ | refine qF ?_ | refine qO ?_ | (with_reducible intro z hz); (first | (replace hz := hz (by omega); subst hz) | subst hz)); (try (conv => whnf))))
     refine Idx.mk k (wdv y) _ rfl (by simp [hy]) rfl ?_
     (try (conv => whnf)); (repeat ((first | refine qT ?_ | refine qF ?_ | refine qO ?_ | (with_reducible intro z hz); (first | (replace hz := hz (by omega); subst hz) | subst hz)); (try (conv => whnf))))
     exact ⟨k + 1, ⟨by omega, by rw [take_at hx, take_at hy, hp, he]⟩, by dsimp only; omega, (qSL 0 rfl rfl)⟩
   · have hi := word_ne he
     have hne : a ≠ b := fun e => he (by subst e; rw [hx] at hy; exact Option.some.inj hy)
     rw [decide_eq_false hne] at hfin
     (try (conv => whnf)); (repeat ((first | refine qT ?_ | refine qF ?_ | refine qO ?_ | (with_reducible intro z hz); (first | (replace hz := hz (by omega); subst hz) | subst hz)); (try (conv => whnf))))
     refine Idx.mk k (wdv x) _ rfl (by simp [hx]) rfl ?_
     (try (conv => whnf)); (repeat ((first | refine qT ?_ | refine qF ?_ | refine qO ?_ | (with_reducible intro z hz); (first | (replace hz := hz (by omega); subst hz) | subst hz)); (try (conv => whnf))))
     refine Idx.mk k (wdv y) _ rfl (by simp [hy]) rfl ?_
     (try (conv => whnf)); (repeat ((first | refine qT ?_ | refine qF ?_ | refine qO ?_ | (with_reducible intro z hz); (first | (replace hz := hz (by omega); subst hz) | subst hz)); (try (conv => whnf))))
     exact hfin _ (ILes.refl _)
 | inr hge =>
   obtain rfl : k = a.length := by omega
   rw [List.take_length, hl, List.take_length] at hp
   rw [decide_eq_true hp] at hfin
   (try (conv => whnf)); (repeat ((first | refine qT ?_ | refine qF ?_ | refine qO ?_ | (with_reducible intro z hz); (first | (replace hz := hz (by omega); subst hz) | subst hz)); (try (conv => whnf))))
   exact hfin _ (ILes.refl _)
theorem texts_pc (a b : List Str) (ha : a.length ≤ 100000000) : PC Try.prog env0 18 [.sl 1 (sv a), .sl 1 (sv b)] [.bool (decide (a = b))] := by
 have hma : (sv a).length = a.length := List.length_map _
 have hmb : (sv b).length = b.length := List.length_map _
 by_cases hl : a.length = b.length
 rotate_left
 · rw [decide_eq_false (fun e => hl (by rw [e]))]
   refine PC.of_va (T := tb0) eqs_ok tb_ok rfl mixed Try.func18 rfl rfl (Nat.le_of_ble_eq_true rfl) ?_; intro Γ C WK LP fin h0 hW hC hB hR hLP hfin
   (try (conv => whnf)); (repeat ((first | refine qT ?_ | refine qF ?_ | refine qO ?_ | (with_reducible intro z hz); (first | (replace hz := hz (by omega); subst hz) | subst hz)); (try (conv => whnf))))
   exact hfin _ (ILes.refl _)
 refine PC.of_va (T := tb0) eqs_ok tb_ok rfl mixed Try.func18 rfl rfl (Nat.le_of_ble_eq_true rfl) ?_; intro Γ C WK LP fin h0 hW hC hB hR hLP hfin
 (try (conv => whnf)); (repeat ((first | refine qT ?_ | refine qF ?_ | refine qO ?_ | (with_reducible intro z hz); (first | (replace hz := hz (by omega); subst hz) | subst hz)); (try (conv => whnf))))
 refine hLP _ _ _ Nat (fun k => ⟨[(0, .imm (.sl 1 (sv a))), (1, .imm (.sl 1 (sv b))), (5, .imm (.int .i64 (k : Nat)))], []⟩) (fun k => k ≤ a.length ∧ a.take k = b.take k) (fun k => a.length - k) 0 ⟨Nat.zero_le _, rfl⟩ (qSL 0 rfl rfl) ?_
 rintro k ⟨hk, hp⟩
 have hho := Nat.lt_or_ge k a.length
 cases hho with
 | inl hlt =>
   obtain ⟨x, hx⟩ : ∃ x, a[k]? = some x := ⟨a[k], List.getElem?_eq_getElem hlt⟩
   obtain ⟨y, hy⟩ : ∃ y, b[k]? = some y := ⟨b[k]'(by omega), List.getElem?_eq_getElem (by omega)⟩
   by_cases he : x = y
   · skip
     (try (conv => whnf)); (repeat ((first | refine qT ?_ | refine qF ?_ | refine qO ?_ | (with_reducible intro z hz); (first | (replace hz := hz (by omega); subst hz) | subst hz)); (try (conv => whnf))))
     refine Idx.mk k (IV.str x) _ rfl (by simp [sv, hx]) rfl ?_
     (try (conv => whnf)); (repeat ((first | refine qT ?_ | refine qF ?_ | refine qO ?_ | (with_reducible intro z hz); (first | (replace hz := hz (by omega); subst hz) | subst hz)); (try (conv => whnf))))
     refine Idx.mk k (IV.str y) _ rfl (by simp [sv, hy]) rfl ?_
     (try (conv => whnf)); (repeat ((first | refine qT ?_ | refine qF ?_ | refine qO ?_ | (with_reducible intro z hz); (first | (replace hz := hz (by omega); subst hz) | subst hz)); (try (conv => whnf))))
     exact ⟨k + 1, ⟨by omega, by rw [take_at hx, take_at hy, hp, he]⟩, by dsimp only; omega, (qSL 0 rfl rfl)⟩
   · skip
     have hne : a ≠ b := fun e => he (by subst e; rw [hx] at hy; exact Option.some.inj hy)
     rw [decide_eq_false hne] at hfin
     (try (conv => whnf)); (repeat ((first | refine qT ?_ | refine qF ?_ | refine qO ?_ | (with_reducible intro z hz); (first | (replace hz := hz (by omega); subst hz) | subst hz)); (try (conv => whnf))))
     refine Idx.mk k (IV.str x) _ rfl (by simp [sv, hx]) rfl ?_
     (try (conv => whnf)); (repeat ((first | refine qT ?_ | refine qF ?_ | refine qO ?_ | (with_reducible intro z hz); (first | (replace hz := hz (by omega); subst hz) | subst hz)); (try (conv => whnf))))
     refine Idx.mk k (IV.str y) _ rfl (by simp [sv, hy]) rfl ?_
     (try (conv => whnf)); (repeat ((first | refine qT ?_ | refine qF ?_ | refine qO ?_ | (with_reducible intro z hz); (first | (replace hz := hz (by omega); subst hz) | subst hz)); (try (conv => whnf))))
     exact hfin _ (ILes.refl _)
 | inr hge =>
   obtain rfl : k = a.length := by omega
   rw [List.take_length, hl, List.take_length] at hp
   rw [decide_eq_true hp] at hfin
   (try (conv => whnf)); (repeat ((first | refine qT ?_ | refine qF ?_ | refine qO ?_ | (with_reducible intro z hz); (first | (replace hz := hz (by omega); subst hz) | subst hz)); (try (conv => whnf))))
   exact hfin _ (ILes.refl _)
theorem ints_pc (a b : List Nat) (ha : a.length ≤ 100000000) : PC Try.prog env0 20 [.sl 1 (zv a), .sl 1 (zv b)] [.bool (decide (a = b))] := by
 have hma : (zv a).length = a.length := List.length_map _
 have hmb : (zv b).length = b.length := List.length_map _
 by_cases hl : a.length = b.length
 rotate_left
 · rw [decide_eq_false (fun e => hl (by rw [e]))]
   refine PC.of_va (T := tb0) eqs_ok tb_ok rfl mixed Try.func20 rfl rfl (Nat.le_of_ble_eq_true rfl) ?_; intro Γ C WK LP fin h0 hW hC hB hR hLP hfin
   (try (conv => whnf)); (repeat ((first | refine qT ?_ | refine qF ?_ | refine qO ?_ | (with_reducible intro z hz); (first | (replace hz := hz (by omega); subst hz) | subst hz)); (try (conv => whnf))))
   exact hfin _ (ILes.refl _)
 refine PC.of_va (T := tb0) eqs_ok tb_ok rfl mixed Try.func20 rfl rfl (Nat.le_of_ble_eq_true rfl) ?_; intro Γ C WK LP fin h0 hW hC hB hR hLP hfin
 (try (conv => whnf)); (repeat ((first | refine qT ?_ | refine qF ?_ | refine qO ?_ | (with_reducible intro z hz); (first | (replace hz := hz (by omega); subst hz) | subst hz)); (try (conv => whnf))))
 refine hLP _ _ _ Nat (fun k => ⟨[(0, .imm (.sl 1 (zv a))), (1, .imm (.sl 1 (zv b))), (5, .imm (.int .i64 (k : Nat)))], []⟩) (fun k => k ≤ a.length ∧ a.take k = b.take k) (fun k => a.length - k) 0 ⟨Nat.zero_le _, rfl⟩ (qSL 0 rfl rfl) ?_
 rintro k ⟨hk, hp⟩
 have hho := Nat.lt_or_ge k a.length
 cases hho with
 | inl hlt =>
   obtain ⟨x, hx⟩ : ∃ x, a[k]? = some x := ⟨a[k], List.getElem?_eq_getElem hlt⟩
   obtain ⟨y, hy⟩ : ∃ y, b[k]? = some y := ⟨b[k]'(by omega), List.getElem?_eq_getElem (by omega)⟩
   by_cases he : x = y
   · skip
     (try (conv => whnf)); (repeat ((first | refine qT ?_ | refine qF ?_ | refine qO ?_ | (with_reducible intro z hz); (first | (replace hz := hz (by omega); subst hz) | subst hz)); (try (conv => whnf))))
     refine Idx.mk k ((fun n : Nat => IV.int .i64 (n : Nat)) x) _ rfl (by simp [zv, hx]) rfl ?_
     (try (conv => whnf)); (repeat ((first | refine qT ?_ | refine qF ?_ | refine qO ?_ | (with_reducible intro z hz); (first | (replace hz := hz (by omega); subst hz) | subst hz)); (try (conv => whnf))))
     refine Idx.mk k ((fun n : Nat => IV.int .i64 (n : Nat)) y) _ rfl (by simp [zv, hy]) rfl ?_
     (try (conv => whnf)); (repeat ((first | refine qT ?_ | refine qF ?_ | refine qO ?_ | (with_reducible intro z hz); (first | (replace hz := hz (by omega); subst hz) | subst hz)); (try (conv => whnf))))
     exact ⟨k + 1, ⟨by omega, by rw [take_at hx, take_at hy, hp, he]⟩, by dsimp only; omega, (qSL 0 rfl rfl)⟩
   · skip
     have hne : a ≠ b := fun e => he (by subst e; rw [hx] at hy; exact Option.some.inj hy)
     rw [decide_eq_false hne] at hfin
     (try (conv => whnf)); (repeat ((first | refine qT ?_ | refine qF ?_ | refine qO ?_ | (with_reducible intro z hz); (first | (replace hz := hz (by omega); subst hz) | subst hz)); (try (conv => whnf))))
     refine Idx.mk k ((fun n : Nat => IV.int .i64 (n : Nat)) x) _ rfl (by simp [zv, hx]) rfl ?_
     (try (conv => whnf)); (repeat ((first | refine qT ?_ | refine qF ?_ | refine qO ?_ | (with_reducible intro z hz); (first | (replace hz := hz (by omega); subst hz) | subst hz)); (try (conv => whnf))))
     refine Idx.mk k ((fun n : Nat => IV.int .i64 (n : Nat)) y) _ rfl (by simp [zv, hy]) rfl ?_
     (try (conv => whnf)); (repeat ((first | refine qT ?_ | refine qF ?_ | refine qO ?_ | (with_reducible intro z hz); (first | (replace hz := hz (by omega); subst hz) | subst hz)); (try (conv => whnf))))
     exact hfin _ (ILes.refl _)
 | inr hge =>
   obtain rfl : k = a.length := by omega
   rw [List.take_length, hl, List.take_length] at hp
   rw [decide_eq_true hp] at hfin
   (try (conv => whnf)); (repeat ((first | refine qT ?_ | refine qF ?_ | refine qO ?_ | (with_reducible intro z hz); (first | (replace hz := hz (by omega); subst hz) | subst hz)); (try (conv => whnf))))
   exact hfin _ (ILes.refl _)
end Go.Proofs.Ytdkalehijilchaa.Pb
