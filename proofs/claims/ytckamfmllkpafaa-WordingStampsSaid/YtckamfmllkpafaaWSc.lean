/-
  Stamped trees, and what the reference's stamp answers.
-/
import Derived.Test.YtckamfmllkpafaaWSb
namespace Go.Proofs.Ytckamfmllkpafaa.Pw
open Go Go.Pv Go.RowKit Go.Proofs.Ytckamfmllkpafaa.Pu Go.Proofs.Ytckamfmllkpafaa.Pb
set_option linter.unusedSimpArgs false
open Lab Lcs Go.Proofs.Ytckamfmllkpafaa
set_option maxRecDepth 10000
set_option maxHeartbeats 16000000
mutual
def wdsU : Ut → Nat
 | .mk _ _ _ head words kids => head.length + words.length + wdsL kids
def wdsL : List Ut → Nat
 | [] => 0
 | u :: r => wdsU u + wdsL r
end
mutual
def stU (a i : Int) : Int → Int → Ut → Ut
 | n, m, .mk _ kind label head words kids => .mk ⟨a, i, n⟩ kind label (mkW a i m (txts head)) (mkW a i (m + (head.length : Nat)) (txts words)) (stL a i (n + 1) (m + (head.length : Nat) + (words.length : Nat)) kids)
def stL (a i : Int) : Int → Int → List Ut → List Ut
 | _, _, [] => []
 | n, m, u :: r => stU a i n m u :: stL a i (n + (u.count : Nat)) (m + (wdsU u : Nat)) r
end
theorem wds_eq (u : Ut) : wdsU u = u.head.length + u.words.length + wdsL u.kids := by cases u; rw [wdsU]; rfl
theorem st_eq (a i n m : Int) (u : Ut) : stU a i n m u = .mk ⟨a, i, n⟩ u.kind u.label (mkW a i m (txts u.head)) (mkW a i (m + (u.head.length : Nat)) (txts u.words)) (stL a i (n + 1) (m + (u.head.length : Nat) + (u.words.length : Nat)) u.kids) := by cases u; rw [stU]; rfl
theorem wdsL_app : ∀ x y : List Ut, wdsL (x ++ y) = wdsL x + wdsL y
 | [], y => by simp [wdsL]
 | u :: r, y => by simp only [List.cons_append, wdsL, wdsL_app r y]; omega
theorem counts_app : ∀ x y : List Ut, Ut.counts (x ++ y) = Ut.counts x + Ut.counts y
 | [], y => by simp [Ut.counts]
 | u :: r, y => by simp only [List.cons_append, Ut.counts, counts_app r y]; omega
theorem stL_app (a i : Int) : ∀ (n m : Int) (x y : List Ut), stL a i n m (x ++ y) = stL a i n m x ++ stL a i (n + (Ut.counts x : Nat)) (m + (wdsL x : Nat)) y
 | n, m, [], y => by simp [stL, Ut.counts, wdsL]
 | n, m, u :: r, y => by
   simp only [List.cons_append, stL, Ut.counts, wdsL]
   rw [stL_app a i _ _ r y]
   congr 2
   congr 1 <;> omega
theorem stL_take {a i n m : Int} {l : List Ut} {k : Nat} {x : Ut} (hx : l[k]? = some x) : stL a i n m (l.take (k + 1)) = stL a i n m (l.take k) ++ [stU a i (n + (Ut.counts (l.take k) : Nat)) (m + (wdsL (l.take k) : Nat)) x] := by
 rw [take_at hx, stL_app]
 simp [stL]
theorem counts_take' {l : List Ut} {k : Nat} {x : Ut} (hx : l[k]? = some x) : Ut.counts (l.take (k + 1)) = Ut.counts (l.take k) + x.count := by rw [take_at hx, counts_app]; simp [Ut.counts]
theorem wds_take {l : List Ut} {k : Nat} {x : Ut} (hx : l[k]? = some x) : wdsL (l.take (k + 1)) = wdsL (l.take k) + wdsU x := by rw [take_at hx, wdsL_app]; simp [wdsL]
theorem stL_len (a i : Int) : ∀ (n m : Int) (l : List Ut), (stL a i n m l).length = l.length
 | _, _, [] => rfl
 | n, m, u :: r => by simp only [stL, List.length_cons, stL_len a i _ _ r]
theorem wds_le (N : Nat) : ∀ u : Ut, u.count ≤ N → Sml u → wdsU u ≤ 600 * u.count := by
 induction N with
 | zero => intro u h; have := count_pos u; omega
 | succ N ih =>
 intro u hN hs
 obtain ⟨h1, h2, _⟩ := hs.self
 have key : ∀ l : List Ut, (∀ x ∈ l, x.count ≤ N ∧ Sml x) → wdsL l ≤ 600 * Ut.counts l := by
   intro l
   induction l with
   | nil => intro _; simp [wdsL, Ut.counts]
   | cons x r ih2 =>
     intro h
     obtain ⟨h3, h4⟩ := h x List.mem_cons_self
     have h5 := ih x h3 h4
     have h6 := ih2 fun y hy => h y (List.mem_cons_of_mem _ hy)
     simp only [wdsL, Ut.counts]
     omega
 have hc := Ut.count_eq u
 have := key u.kids fun x hx => ⟨by
   obtain ⟨j, hj, rfl⟩ := List.getElem_of_mem hx
   have := kid_lt' (List.getElem?_eq_getElem hj)
   omega, hs.kid hx⟩
 rw [wds_eq]
 omega
theorem wdsL_le : ∀ l : List Ut, (∀ x ∈ l, Sml x) → wdsL l ≤ 600 * Ut.counts l
 | [], _ => by simp [wdsL, Ut.counts]
 | x :: r, h => by
   have h5 := wds_le _ x (Nat.le_refl _) (h x List.mem_cons_self)
   have h6 := wdsL_le r fun y hy => h y (List.mem_cons_of_mem _ hy)
   simp only [wdsL, Ut.counts]
   omega
theorem rstamp_pc (a i : Int) (N : Nat) : ∀ (u : Ut) (n m : Int), u.count ≤ N → Sml u → 0 ≤ n → n + u.count ≤ 1000000 → 0 ≤ m → m + 600 * u.count ≤ 1000000000 →
   PC Try.prog env0 28 [uv u, .int .i64 a, .int .i64 i, .int .i64 n, .int .i64 m] [uv (stU a i n m u), .int .i64 (n + (u.count : Nat)), .int .i64 (m + (wdsU u : Nat))] := by
 induction N with
 | zero => intro u n m h; have := count_pos u; omega
 | succ N ih =>
 intro u n m hN hsb hn0 hn hm0 hm
 have hue := uv_eq u
 have hcu := Ut.count_eq u
 obtain ⟨b1, b2, b3⟩ := hsb.self
 have hkl : (u.kids.map uv).length = u.kids.length := List.length_map _
 have hhl : (u.head.map wdv).length = u.head.length := List.length_map _
 have hwl : (u.words.map wdv).length = u.words.length := List.length_map _
 have hwe := wds_eq u
 have hT1 := texts_pc u.head (by omega)
 have hT2 := texts_pc u.words (by omega)
 have hM1 := rmark_pc (txts u.head) a i m (by rw [txts_len]; omega) (by omega)
 have hM2 := rmark_pc (txts u.words) a i (m + ((u.head.map wdv).length : Nat)) (by rw [txts_len]; omega) (by omega)
 rw [hue, st_eq, uv_mk, ← hhl, ← hwl]
 refine PC.of_va (T := tbs) eqs_ok tbs_ok rfl mixed Try.func28 rfl rfl (Nat.le_of_ble_eq_true rfl) ?_; intro Γ C WK LP fin h0 hW hC hB hR hLP hfin
 (try (conv => whnf)); (repeat ((first | refine qT ?_ | refine qF ?_ | refine qO ?_ | (with_reducible intro z hz); (first | (replace hz := hz (by omega); subst hz) | subst hz) | (refine CallV.mk _ (hC _ _ _ (PCw.of hT1)) (fun js hjs => ?_); subst hjs) | (refine CallV.mk _ (hC _ _ _ (PCw.of hM1)) (fun js hjs => ?_); subst hjs) | (refine CallV.mk _ (hC _ _ _ (PCw.of hT2)) (fun js hjs => ?_); subst hjs) | (refine CallV.mk _ (hC _ _ _ (PCw.of hM2)) (fun js hjs => ?_); subst hjs)); (try (conv => whnf))))
 refine hLP _ _ _ Nat (fun k => ⟨[(1, .imm (.int .i64 a)), (2, .imm (.int .i64 i)), (3, .imm (.int .i64 (n + 1 + (Ut.counts (u.kids.take k) : Nat)))), (4, .imm (.int .i64 (m + ((u.head.map wdv).length : Nat) + ((u.words.map wdv).length : Nat) + (wdsL (u.kids.take k) : Nat)))), (5, .ptr 0 1 0), (10, .ptr 1 1 0), (13, .ptr 2 1 0), (14, .imm (.int .i64 (k : Nat)))], [.box 1 [.imm (.int .i64 u.id.x), .imm (.int .i64 u.id.y), .imm (.int .i64 u.id.z), .imm (.int .i64 u.kind), .imm (.str u.label), .imm (.sl 4 (u.head.map wdv)), .imm (.sl 4 (u.words.map wdv)), .imm (.sl 8 (u.kids.map uv))], zbox, .box 1 [.imm (.int .i64 a), .imm (.int .i64 i), .imm (.int .i64 n), .imm (.int .i64 u.kind), .imm (.str u.label), .imm (.sl 4 ((mkW a i m (txts u.head)).map wdv)), .imm (.sl 4 ((mkW a i (m + ((u.head.map wdv).length : Nat)) (txts u.words)).map wdv)), .row 7 1], .dead 0, .dead 0, .dead 0, .dead 0, .row 27 8 1 (((stL a i (n + 1) (m + ((u.head.map wdv).length : Nat) + ((u.words.map wdv).length : Nat)) (u.kids.take k)).map uv).map .imm)]⟩) (fun k => k ≤ u.kids.length) (fun k => u.kids.length - k) 0 (Nat.zero_le _) ((WeakA.nilBox 2 7 27 8 rfl rfl).trans (((WeakA.row 7 (((stL a i (n + 1) (m + ((u.head.map wdv).length : Nat) + ((u.words.map wdv).length : Nat)) (u.kids.take 0)).map uv).map .imm) rfl (by simp [stL]))).trans (qSL 8 rfl rfl (hE := by (repeat ((conv => whnf); first | exact trivial | refine And.intro (by first | exact WkOne.any | exact WkOne.eq (by with_reducible rfl) rfl | exact WkOne.eq (congrArg (fun z => PV.imm (IV.int IntKind.i64 z)) (by first | omega | (simp [Ut.counts,wdsL]; done) | (simp [Ut.counts,wdsL]; omega))) rfl | exact WkOne.eq (by first | (simp [Ut.counts,wdsL]; done) | fail) rfl | exact WkOne.eq rfl rfl | exact WkOne.le rfl (ILe.nil _)) ?_)))))) ?_
 intro k hk
 have hho := Nat.lt_or_ge k u.kids.length
 cases hho with
 | inl hlt =>
   refine (?_ : ∀ Q : Exit → AS → Prop, vcS _ _ _ _ _ _ _ (loopQA _ _ _ _ _ _ Q)) _; intro Q
   obtain ⟨x, hx⟩ : ∃ x, u.kids[k]? = some x := ⟨u.kids[k], List.getElem?_eq_getElem hlt⟩
   obtain ⟨h1, h2, h3, h4⟩ := kid_lt' hx
   have hct := counts_take' hx
   have hwt := wds_take hx
   have hsx := hsb.kid (List.mem_of_getElem? hx)
   have hwx := wds_le _ x (Nat.le_refl _) hsx
   have hwk := wdsL_le (u.kids.take k) fun y hy => hsb.kid (List.mem_of_mem_take hy)
   have hux := uv_eq x
   have hI := ih x (n + 1 + (Ut.counts (u.kids.take k) : Nat)) (m + ((u.head.map wdv).length : Nat) + ((u.words.map wdv).length : Nat) + (wdsL (u.kids.take k) : Nat)) (by omega) hsx (by omega) (by omega) (by omega) (by omega)
   have hrl : (((stL a i (n + 1) (m + ((u.head.map wdv).length : Nat) + ((u.words.map wdv).length : Nat)) (u.kids.take k)).map uv).map PV.imm).length = k := by simp [stL_len]; omega
   have hsx := uv_eq (stU a i (n + 1 + (Ut.counts (u.kids.take k) : Nat)) (m + ((u.head.map wdv).length : Nat) + ((u.words.map wdv).length : Nat) + (wdsL (u.kids.take k) : Nat)) x)
   have htk := stL_take (a := a) (i := i) (n := n + 1) (m := m + ((u.head.map wdv).length : Nat) + ((u.words.map wdv).length : Nat)) hx
   generalize stU a i (n + 1 + (Ut.counts (u.kids.take k) : Nat)) (m + ((u.head.map wdv).length : Nat) + ((u.words.map wdv).length : Nat) + (wdsL (u.kids.take k) : Nat)) x = y at hsx hI htk
   rw [hux, hsx] at hI
   (try (conv => whnf)); (repeat ((first | refine qT ?_ | refine qF ?_ | refine qO ?_ | (with_reducible intro z hz); (first | (replace hz := hz (by omega); subst hz) | subst hz)); (try (conv => whnf))))
   refine Idx.mk k (uv x) _ rfl (by simp [hx]) (by rw [hux]; try rfl) ?_
   (try (conv => whnf)); (repeat ((first | refine qT ?_ | refine qF ?_ | refine qO ?_ | (with_reducible intro z hz); (first | (replace hz := hz (by omega); subst hz) | subst hz) | (refine CallV.mk _ (hC _ _ _ (PCw.of hI)) (fun js hjs => ?_); subst hjs)); (try (conv => whnf))))
   refine Owe.mk (by show _ + 1 ≤ _; rw [hrl]; unfold most; omega) ?_
   (try (conv => whnf)); (repeat ((first | refine qT ?_ | refine qF ?_ | refine qO ?_ | (with_reducible intro z hz); (first | (replace hz := hz (by omega); subst hz) | subst hz)); (try (conv => whnf))))
   exact ⟨k + 1, by omega, by dsimp only; omega, ((WeakA.row 7 (((stL a i (n + 1) (m + ((u.head.map wdv).length : Nat) + ((u.words.map wdv).length : Nat)) (u.kids.take (k + 1))).map uv).map .imm) rfl (by rw [htk]; simp [hsx]))).trans ((WeakA.renew 7 1 rfl (by first | omega | (intro _; rw [hk0 _ _ rfl]; exact Nat.le_of_ble_eq_true rfl)) (by repeat (first | exact trivial | refine And.intro (rgL_imms _ _ _ _) ?_ | refine And.intro rfl ?_))).trans (qSL 8 rfl rfl (hE := by (repeat ((conv => whnf); first | exact trivial | refine And.intro (by first | exact WkOne.any | exact WkOne.eq (by with_reducible rfl) rfl | exact WkOne.eq (congrArg (fun z => PV.imm (IV.int IntKind.i64 z)) (by first | omega | (simp [hct,hwt]; done) | (simp [hct,hwt]; omega))) rfl | exact WkOne.eq (by first | (simp [hct,hwt]; done) | fail) rfl | exact WkOne.eq rfl rfl | exact WkOne.le rfl (ILe.nil _)) ?_)))))⟩
 | inr hge =>
   obtain rfl : k = u.kids.length := by omega
   (try (conv => whnf)); (repeat ((first | refine qT ?_ | refine qF ?_ | refine qO ?_ | (with_reducible intro z hz); (first | (replace hz := hz (by omega); subst hz) | subst hz)); (try (conv => whnf))))
   refine Imms.mk ((stL a i (n + 1) (m + ((u.head.map wdv).length : Nat) + ((u.words.map wdv).length : Nat)) u.kids).map uv) (by rw [List.take_length]) ?_
   have e1 : n + 1 + (Ut.counts (u.kids.take u.kids.length) : Nat) = n + (u.count : Nat) := by rw [List.take_length]; omega
   have e2 : m + ((u.head.map wdv).length : Nat) + ((u.words.map wdv).length : Nat) + (wdsL (u.kids.take u.kids.length) : Nat) = m + (wdsU u : Nat) := by rw [List.take_length]; omega
   refine hfin _ ?_
   rw [e1, e2]
   exact ILes.refl _
end Go.Proofs.Ytckamfmllkpafaa.Pw
