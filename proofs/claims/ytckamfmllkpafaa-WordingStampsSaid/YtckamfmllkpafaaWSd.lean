/-
  The program's Stamp.
-/
import Derived.Test.YtckamfmllkpafaaWSc
import Derived.Test.YtckamfmllkpafaaCloU
namespace Go.Proofs.Ytckamfmllkpafaa.Pw
open Go Go.Pv Go.RowKit Go.Proofs.Ytckamfmllkpafaa.Pu Go.Proofs.Ytckamfmllkpafaa.Pb
set_option linter.unusedSimpArgs false
open Lab Lcs Go.Proofs.Ytckamfmllkpafaa Go.Proofs.Ytckamfmllkpafaa.Pt
set_option maxRecDepth 10000
set_option maxHeartbeats 16000000
theorem rStamp_pc (u : Ut) (a i : Int) (hc : u.count ≤ 100000) (hs : Sml u) : PC Try.prog env0 9 [uv u, .int .i64 a, .int .i64 i] [uv (stU a i 1 0 u)] := by
 have hI := rstamp_pc a i _ u 1 0 (Nat.le_refl _) hs (by omega) (by omega) (by omega) (by omega)
 have hue := uv_eq u
 have hsx := uv_eq (stU a i 1 0 u)
 generalize stU a i 1 0 u = y at hI hsx ⊢
 rw [hue, hsx] at hI ⊢
 refine PC.of_va (T := tbs) eqs_ok tbs_ok rfl mixed Try.func9 rfl rfl (Nat.le_of_ble_eq_true rfl) ?_; intro Γ C WK LP fin h0 hW hC hB hR hLP hfin
 (try (conv => whnf)); (repeat ((first | refine qT ?_ | refine qF ?_ | refine qO ?_ | (with_reducible intro z hz); (first | (replace hz := hz (by omega); subst hz) | subst hz) | (refine CallV.mk _ (hC _ _ _ (PCw.of hI)) (fun js hjs => ?_); subst hjs)); (try (conv => whnf))))
 exact hfin _ (ILes.refl _)
theorem mark1_pcb (l : List Wd) (a i m : Int) (hl : l.length ≤ 300) (hm0 : 0 ≤ m) (hm : m ≤ 1000000000) : PCB Try.prog env0 25 [.imm (.sl 4 (l.map wdv)), .ptr 0 1 0, .ptr 1 1 0, .ptr 2 1 0] [.box 1 [.imm (.int .i64 m)], .box 1 [.imm (.int .i64 a)], .box 1 [.imm (.int .i64 i)]] [.imm (.sl 4 ((mkW a i m (txts l)).map wdv))] [.box 1 [.imm (.int .i64 (m + (l.length : Nat)))], .box 1 [.imm (.int .i64 a)], .box 1 [.imm (.int .i64 i)]] := by
 have hml : (l.map wdv).length = l.length := List.length_map _
 have hS := strings_pc l (by omega)
 have hM := mark_pc (txts l) a i m (by rw [txts_len]; omega) (by omega)
 rw [← hml]
 refine PCB.of_va (T := tbs) eqs_ok tbs_ok rfl mixed Try.func25 rfl rfl rfl (Nat.le_of_ble_eq_true rfl) rfl ?_; intro Γ C WK LP fin h0 hk0 hW hC hB hR hLP hfin
 (try (conv => whnf)); (repeat ((first | refine qT ?_ | refine qF ?_ | refine qO ?_ | (with_reducible intro z hz); (first | (replace hz := hz (by omega); subst hz) | subst hz) | (refine CallV.mk _ (hC _ _ _ (PCw.of hS)) (fun js hjs => ?_); subst hjs) | (refine CallV.mk _ (hC _ _ _ (PCw.of hM)) (fun js hjs => ?_); subst hjs)); (try (conv => whnf))))
 exact hfin _ (qSL 3 rfl rfl)
abbrev bks (n a i m : Int) : List Blk := [.box 1 [.imm (.int .i64 n)], .box 1 [.imm (.int .i64 a)], .box 1 [.imm (.int .i64 i)], .box 1 [.clo 25 [.ptr 5 1 0, .ptr 1 1 0, .ptr 2 1 0]], .box 1 [.clo 26 [.ptr 0 1 0, .ptr 1 1 0, .ptr 2 1 0, .ptr 3 1 0, .ptr 4 1 0]], .box 1 [.imm (.int .i64 m)]]
abbrev cks (n a i m : Int) : List CBk := [.box 1 [.imm (.int .i64 n)], .box 1 [.imm (.int .i64 a)], .box 1 [.imm (.int .i64 i)], .box 1 [.clo 25 [.ptr 5 1 0, .ptr 1 1 0, .ptr 2 1 0]], .box 1 [.clo 26 [.ptr 0 1 0, .ptr 1 1 0, .ptr 2 1 0, .ptr 3 1 0, .ptr 4 1 0]], .box 1 [.imm (.int .i64 m)]]
def rowK (a i n m : Int) (l : List Ut) (k : Nat) : List Ut := stL a i n m (l.take k) ++ l.drop k
theorem rowK_len (a i n m : Int) (l : List Ut) (k : Nat) : (rowK a i n m l k).length = l.length := by
 unfold rowK
 rw [List.length_append, stL_len, List.length_take, List.length_drop]
 omega
theorem rowK_at {a i n m : Int} {l : List Ut} {k : Nat} {x : Ut} (hx : l[k]? = some x) : (rowK a i n m l k)[k]? = some x := by
 have hk := (List.getElem?_eq_some_iff.1 hx).1
 unfold rowK
 rw [List.getElem?_append_right (by rw [stL_len, List.length_take]; omega), stL_len, List.length_take, List.getElem?_drop]
 rw [show k + (k - min k l.length) = k by omega]
 exact hx
theorem rowK_set {a i n m : Int} {l : List Ut} {k : Nat} {x : Ut} (hx : l[k]? = some x) : (rowK a i n m l k).set k (stU a i (n + (Ut.counts (l.take k) : Nat)) (m + (wdsL (l.take k) : Nat)) x) = rowK a i n m l (k + 1) := by
 have hk := (List.getElem?_eq_some_iff.1 hx).1
 unfold rowK
 rw [stL_take hx, List.set_append_right _ _ (by rw [stL_len, List.length_take]; omega), stL_len, List.length_take, show k - min k l.length = 0 by omega, List.drop_eq_getElem_cons hk, List.set_cons_zero, List.append_assoc]
 rfl
theorem stamp2_pcb (a i : Int) (N : Nat) : ∀ (u : Ut) (n m : Int), u.count ≤ N → Sml u → 0 ≤ n → n + u.count ≤ 1000000 → 0 ≤ m → m + 600 * u.count ≤ 1000000000 →
   PCB Try.prog env0 26 [.imm (uv u), .ptr 0 1 0, .ptr 1 1 0, .ptr 2 1 0, .ptr 3 1 0, .ptr 4 1 0] (bks n a i m) [.imm (uv (stU a i (n + 1) m u))] (bks (n + (u.count : Nat)) a i (m + (wdsU u : Nat))) := by
 induction N with
 | zero => intro u n m h; have := count_pos u; omega
 | succ N ih =>
 intro u n m hN hsb hn0 hn hm0 hm
 have hue := uv_eq u
 have hcu := Ut.count_eq u
 obtain ⟨b1, b2, b3⟩ := hsb.self
 have hkl : (u.kids.map uv).length = u.kids.length := List.length_map _
 have hhl : (u.head.map wdv).length = u.head.length := List.length_map _
 have hwl : (u.words.map wdv).length = u.words.length := List.length_map _
 have hwe := wds_eq u
 have hM1 := mark1_pcb u.head a i m b1 hm0 (by omega)
 have hM2 := mark1_pcb u.words a i (m + (u.head.length : Nat)) b2 (by omega) (by omega)
 have hC3 := cloneU_pcr (X := env0) (u.kids.map uv) (by rw [List.length_map]; omega)
 rw [hue, st_eq, uv_mk]
 refine PCB.of_va (T := tbs) eqs_ok tbs_ok rfl mixed Try.func26 rfl rfl rfl (Nat.le_of_ble_eq_true rfl) rfl ?_; intro Γ C WK LP fin h0 hk0 hW hC hB hR hLP hfin
 (try (conv => whnf)); (repeat ((first | refine qT ?_ | refine qF ?_ | refine qO ?_ | (with_reducible intro z hz); (first | (replace hz := hz (by omega); subst hz) | subst hz)); (try (conv => whnf))))
 refine CallB.mk ([.imm (.sl 4 ((mkW a i m (txts u.head)).map wdv))]) ([.box 1 [.imm (.int .i64 (m + (u.head.length : Nat)))], .box 1 [.imm (.int .i64 a)], .box 1 [.imm (.int .i64 i)]]) (hB _ _ _ _ _ (hM1)) ?_
 (try (conv => whnf)); (repeat ((first | refine qT ?_ | refine qF ?_ | refine qO ?_ | (with_reducible intro z hz); (first | (replace hz := hz (by omega); subst hz) | subst hz)); (try (conv => whnf))))
 refine CallB.mk ([.imm (.sl 4 ((mkW a i (m + (u.head.length : Nat)) (txts u.words)).map wdv))]) ([.box 1 [.imm (.int .i64 (m + (u.head.length : Nat) + (u.words.length : Nat)))], .box 1 [.imm (.int .i64 a)], .box 1 [.imm (.int .i64 i)]]) (hB _ _ _ _ _ (hM2)) ?_
 (try (conv => whnf)); (repeat ((first | refine qT ?_ | refine qF ?_ | refine qO ?_ | (with_reducible intro z hz); (first | (replace hz := hz (by omega); subst hz) | subst hz)); (try (conv => whnf))))
 refine CallV.row _ _ _ (hR _ _ _ _ _ (PCRw.of (hC3))) (fun js hjs => ?_); subst hjs
 (try (conv => whnf)); (repeat ((first | refine qT ?_ | refine qF ?_ | refine qO ?_ | (with_reducible intro z hz); (first | (replace hz := hz (by omega); subst hz) | subst hz)); (try (conv => whnf))))
 have z1 : n + 1 + ((Ut.counts (u.kids.take 0) : Nat) : Int) = n + 1 := by simp [Ut.counts]
 have z2 : (m + (u.head.length : Nat) + (u.words.length : Nat)) + ((wdsL (u.kids.take 0) : Nat) : Int) = (m + (u.head.length : Nat) + (u.words.length : Nat)) := by simp [wdsL]
 refine hLP _ _ _ Nat (fun k => ⟨[(1, .ptr 0 1 0), (2, .ptr 1 1 0), (3, .ptr 2 1 0), (4, .ptr 3 1 0), (5, .ptr 4 1 0), (6, .ptr 6 1 0), (7, .ptr 7 1 0), (32, .row 10 1), (33, .imm (.int .i64 (u.kids.length : Nat))), (34, .imm (.int .i64 (k : Nat)))], [.box 1 [.imm (.int .i64 (n + 1 + (Ut.counts (u.kids.take k) : Nat)))], .box 1 [.imm (.int .i64 a)], .box 1 [.imm (.int .i64 i)], .box 1 [.clo 25 [.ptr 5 1 0, .ptr 1 1 0, .ptr 2 1 0]], .box 1 [.clo 26 [.ptr 0 1 0, .ptr 1 1 0, .ptr 2 1 0, .ptr 3 1 0, .ptr 4 1 0]], .box 1 [.imm (.int .i64 ((m + (u.head.length : Nat) + (u.words.length : Nat)) + (wdsL (u.kids.take k) : Nat)))], .box 1 [.imm (.int .i64 a), .imm (.int .i64 i), .imm (.int .i64 (n + 1)), .imm (.int .i64 u.kind), .imm (.str u.label), .imm (.sl 4 ((mkW a i m (txts u.head)).map wdv)), .imm (.sl 4 ((mkW a i (m + (u.head.length : Nat)) (txts u.words)).map wdv)), .row 10 1], zbox, .dead 0, .dead 0, .row 27 8 1 (((rowK a i (n + 1 + 1) (m + (u.head.length : Nat) + (u.words.length : Nat)) u.kids k).map uv).map .imm)]⟩) (fun k => k ≤ u.kids.length) (fun k => u.kids.length - k) 0 (Nat.zero_le _) (by
   dsimp only []
   rw [z1, z2]
   exact (((WeakA.row 10 (((rowK a i (n + 1 + 1) (m + (u.head.length : Nat) + (u.words.length : Nat)) u.kids 0).map uv).map .imm) rfl (by simp [rowK, stL]))).trans (qSL 11 rfl rfl))) ?_
 intro k hk
 have hho := Nat.lt_or_ge k u.kids.length
 cases hho with
 | inl hlt =>
   refine (?_ : ∀ Q : Exit → AS → Prop, vcS _ _ _ _ _ _ _ (loopQA _ _ _ _ _ _ Q)) _; intro Q
   obtain ⟨x, hx⟩ : ∃ x, u.kids[k]? = some x := ⟨u.kids[k], List.getElem?_eq_getElem hlt⟩
   obtain ⟨h1, h2, h3, h4⟩ := kid_lt' hx
   have hct := counts_take' hx
   have hwt := wds_take hx
   have hsx := hsb.kid (List.mem_of_getElem? hx)
   have hwx := wds_le _ x (Nat.le_refl _) hsx
   have hwk := wdsL_le (u.kids.take k) fun y hy => hsb.kid (List.mem_of_mem_take hy)
   have hux := uv_eq x
   have hI := ih x (n + 1 + (Ut.counts (u.kids.take k) : Nat)) ((m + (u.head.length : Nat) + (u.words.length : Nat)) + (wdsL (u.kids.take k) : Nat)) (by omega) hsx (by omega) (by omega) (by omega) (by omega)
   have e0 : n + 1 + (Ut.counts (u.kids.take k) : Nat) + 1 = n + 1 + 1 + (Ut.counts (u.kids.take k) : Nat) := by omega
   rw [e0] at hI
   have hat := rowK_at (a := a) (i := i) (n := n + 1 + 1) (m := (m + (u.head.length : Nat) + (u.words.length : Nat))) hx
   have hst := rowK_set (a := a) (i := i) (n := n + 1 + 1) (m := (m + (u.head.length : Nat) + (u.words.length : Nat))) hx
   have hrl : ((((rowK a i (n + 1 + 1) (m + (u.head.length : Nat) + (u.words.length : Nat)) u.kids k)).map uv).map PV.imm).length = u.kids.length := by simp [rowK_len]
   have hsy := uv_eq (stU a i (n + 1 + 1 + (Ut.counts (u.kids.take k) : Nat)) ((m + (u.head.length : Nat) + (u.words.length : Nat)) + (wdsL (u.kids.take k) : Nat)) x)
   generalize stU a i (n + 1 + 1 + (Ut.counts (u.kids.take k) : Nat)) ((m + (u.head.length : Nat) + (u.words.length : Nat)) + (wdsL (u.kids.take k) : Nat)) x = y at hsy hI hst
   rw [hux, hsy] at hI
   (try (conv => whnf)); (repeat ((first | refine qT ?_ | refine qF ?_ | refine qO ?_ | (with_reducible intro z hz); (first | (replace hz := hz (by omega); subst hz) | subst hz)); (try (conv => whnf))))
   refine Pos.mk k rfl (by omega) ?_
   (try (conv => whnf)); (repeat ((first | refine qT ?_ | refine qF ?_ | refine qO ?_ | (with_reducible intro z hz); (first | (replace hz := hz (by omega); subst hz) | subst hz)); (try (conv => whnf))))
   refine At.mk (.imm (uv x)) (by rw [List.getElem?_map, List.getElem?_map, hat]; rfl) ?_
   rw [hux]
   refine CallB.mk ([.imm (uv y)]) (cks (n + 1 + (Ut.counts (u.kids.take k) : Nat) + (x.count : Nat)) a i ((m + (u.head.length : Nat) + (u.words.length : Nat)) + (wdsL (u.kids.take k) : Nat) + (wdsU x : Nat))) (hB _ _ _ _ _ (by rw [hsy]; exact hI)) ?_
   rw [hsy]
   (try (conv => whnf)); (repeat ((first | refine qT ?_ | refine qF ?_ | refine qO ?_ | (with_reducible intro z hz); (first | (replace hz := hz (by omega); subst hz) | subst hz)); (try (conv => whnf))))
   refine Pos.mk k rfl (by omega) ?_
   (try (conv => whnf)); (repeat ((first | refine qT ?_ | refine qF ?_ | refine qO ?_ | (with_reducible intro z hz); (first | (replace hz := hz (by omega); subst hz) | subst hz)); (try (conv => whnf))))
   refine At.mk (.imm (uv x)) (by rw [List.getElem?_map, List.getElem?_map, hat]; rfl) ?_
   rw [hux]
   (try (conv => whnf)); (repeat ((first | refine qT ?_ | refine qF ?_ | refine qO ?_ | (with_reducible intro z hz); (first | (replace hz := hz (by omega); subst hz) | subst hz)); (try (conv => whnf))))
   refine ⟨k + 1, by omega, by dsimp only; omega, ?_⟩
   dsimp only []
   rw [show n + 1 + ((Ut.counts (u.kids.take (k + 1)) : Nat) : Int) = n + 1 + (Ut.counts (u.kids.take k) : Nat) + (x.count : Nat) by omega, show (m + (u.head.length : Nat) + (u.words.length : Nat)) + ((wdsL (u.kids.take (k + 1)) : Nat) : Int) = (m + (u.head.length : Nat) + (u.words.length : Nat)) + (wdsL (u.kids.take k) : Nat) + (wdsU x : Nat) by omega]
   exact ((WeakA.row 10 (((rowK a i (n + 1 + 1) (m + (u.head.length : Nat) + (u.words.length : Nat)) u.kids (k + 1)).map uv).map .imm) rfl (by rw [← hst, List.map_set, List.map_set, hsy]; rfl))).trans (qSL 11 rfl rfl)
 | inr hge =>
   obtain rfl : k = u.kids.length := by omega
   have hrk : rowK a i (n + 1 + 1) (m + (u.head.length : Nat) + (u.words.length : Nat)) u.kids u.kids.length = stL a i (n + 1 + 1) (m + (u.head.length : Nat) + (u.words.length : Nat)) u.kids := by simp [rowK]
   rw [hrk]
   (try (conv => whnf)); (repeat ((first | refine qT ?_ | refine qF ?_ | refine qO ?_ | (with_reducible intro z hz); (first | (replace hz := hz (by omega); subst hz) | subst hz)); (try (conv => whnf))))
   refine hfin _ ?_
   rw [List.take_length, show n + ((u.count : Nat) : Int) = n + 1 + (Ut.counts u.kids : Nat) by omega, show m + ((wdsU u : Nat) : Int) = (m + (u.head.length : Nat) + (u.words.length : Nat)) + (wdsL u.kids : Nat) by omega]
   exact ((WeakA.frozen 10 ((stL a i (n + 1 + 1) (m + (u.head.length : Nat) + (u.words.length : Nat)) u.kids).map uv) rfl (by first | rfl | simp) (ILe.refl _) (by repeat (first | exact trivial | refine And.intro (fzL_imm _ _ _ _) ?_ | refine And.intro rfl ?_)))).trans (qSL 6 rfl rfl)
theorem stamp_pc (u : Ut) (a i : Int) (hc : u.count ≤ 100000) (hs : Sml u) : PC Try.prog env0 7 [uv u, .int .i64 a, .int .i64 i] [uv (stU a i 1 0 u)] := by
 have hI := stamp2_pcb a i _ u 0 0 (Nat.le_refl _) hs (by omega) (by omega) (by omega) (by omega)
 have hue := uv_eq u
 have hsx := uv_eq (stU a i 1 0 u)
 rw [show (0 : Int) + 1 = 1 from rfl] at hI
 generalize stU a i 1 0 u = y at hI hsx ⊢
 rw [hue, hsx] at hI ⊢
 refine PC.of_va (T := tbs) eqs_ok tbs_ok rfl mixed Try.func7 rfl rfl (Nat.le_of_ble_eq_true rfl) ?_; intro Γ C WK LP fin h0 hW hC hB hR hLP hfin
 (try (conv => whnf)); (repeat ((first | refine qT ?_ | refine qF ?_ | refine qO ?_ | (with_reducible intro z hz); (first | (replace hz := hz (by omega); subst hz) | subst hz)); (try (conv => whnf))))
 refine CallB.mk ([.imm (uv y)]) (cks (0 + (u.count : Nat)) a i (0 + (wdsU u : Nat))) (hB _ _ _ _ _ (by rw [hsx]; exact hI)) ?_
 rw [hsx]
 (try (conv => whnf)); (repeat ((first | refine qT ?_ | refine qF ?_ | refine qO ?_ | (with_reducible intro z hz); (first | (replace hz := hz (by omega); subst hz) | subst hz)); (try (conv => whnf))))
 exact hfin _ (ILes.refl _)
end Go.Proofs.Ytckamfmllkpafaa.Pw
