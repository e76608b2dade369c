/-
  Marks that occur once and in order.
-/
import Derived.Test.YtcgdanbmgeoneaaWWk
namespace Go.Proofs.Ytcgdanbmgeoneaa.Pw
open Go Go.Pv Go.RowKit Go.Proofs.Ytcgdanbmgeoneaa.Pu Go.Proofs.Ytcgdanbmgeoneaa.Pb
set_option linter.unusedSimpArgs false
open Lab Lcs Go.Proofs.Ytcgdanbmgeoneaa
set_option maxRecDepth 10000
set_option maxHeartbeats 16000000
def eqs3 : TypeId → Option (List CK) := fun t => if t = 57 then some [.int .i64, .int .i64, .int .i64] else eqs t
theorem eqs3_ok : EqsOK Try.prog eqs3 := by
 intro t ks h w x y is js xs ys Q h1 h2 h3 h4
 unfold eqs3 at h
 split at h
 · rename_i ht
   simp only [Option.some.injEq] at h
   subst h
   subst ht
   obtain ⟨a, _, rfl, ph11⟩ := shape_int h1
   obtain ⟨b, _, rfl, ph12⟩ := shape_int ph11
   obtain ⟨c, _, rfl, ph13⟩ := shape_int ph12
   obtain ⟨d, _, rfl, ph21⟩ := shape_int h2
   obtain ⟨e, _, rfl, ph22⟩ := shape_int ph21
   obtain ⟨f, _, rfl, ph23⟩ := shape_int ph22
   obtain rfl := shape_nil ph13
   obtain rfl := shape_nil ph23
   simp only [RepC, RepI] at h3 h4
   obtain ⟨_, _, rfl, _, rfl, _, _, rfl, _, rfl, _, _, rfl, _, rfl, rfl⟩ := h3
   obtain ⟨_, _, rfl, _, rfl, _, _, rfl, _, rfl, _, _, rfl, _, rfl, rfl⟩ := h4
   refine ⟨run_eqGuard_agg w _ _ _ _ _ _ (by kernel_rfl), run_eqGuard_agg w _ _ _ _ _ _ (by kernel_rfl), ?_⟩
   have := eq_mark 9998 a b c d e f w
   simpa [Op.equal, Op.maxDepth, eqC] using this
 · exact eqs_ok t ks h w x y is js xs ys Q h1 h2 h3 h4
def tbo (fr : Nat → List Nat) (hk : Nat → Bool) : Tb := ⟨Pv.look tdf, eqs3, fun _ => none, fr, hk, fun _ => 0⟩
theorem tb3_ok {fr : Nat → List Nat} {hk : Nat → Bool} : ∀ t d, (tbo fr hk).td t = some d → tdOf Try.prog t = some d := Pv.look_ok tdf_ok
def tbz : Tb := tbo (fun _ => []) fun _ => false
def Once (w : List Wd) : List Wd → Int → Int → Prop
 | [], _, _ => True
 | x :: r, o, f => (x.mark.x = 3 → o < x.mark.z ∧ x.mark.z < (w.length : Int) ∧ w[x.mark.z.toNat]? = some x ∧ Once w r x.mark.z f) ∧ (x.mark.x ≠ 3 → x.mark = ⟨7, 1, f⟩ ∧ Once w r o (f + 1))
theorem once_mono {w : List Wd} : ∀ {l : List Wd} {o o2 f : Int}, o2 ≤ o → Once w l o f → Once w l o2 f
 | [], _, _, _, _, _ => trivial
 | x :: r, o, o2, f, h, ⟨h1, h2⟩ => ⟨fun e => ⟨by have := (h1 e).1; omega, (h1 e).2⟩, fun e => ⟨(h2 e).1, once_mono h (h2 e).2⟩⟩
theorem once_mkW {w r : List Wd} {o : Int} : ∀ {nw : List Str} {f : Int}, Once w r o (f + (nw.length : Int)) → Once w (mkW 7 1 f nw ++ r) o f
 | [], f, h => by simpa [mkW] using h
 | s :: t, f, h => by
   refine ⟨fun e => absurd (show (7 : Int) = 3 from e) (by decide), fun _ => ⟨rfl, once_mkW ?_⟩⟩
   rw [show f + 1 + (t.length : Int) = f + ((s :: t).length : Int) by rw [List.length_cons]; omega]
   exact h
theorem mkW_get {a i : Int} : ∀ {l : List Str} {f : Int} {k : Nat} {x : Wd}, (mkW a i f l)[k]? = some x → x.mark = ⟨a, i, f + k⟩
 | [], f, k, x, h => by simp [mkW] at h
 | s :: r, f, 0, x, h => by
   simp only [mkW, List.getElem?_cons_zero, Option.some.injEq] at h
   rw [← h]
   simp
 | s :: r, f, k + 1, x, h => by
   simp only [mkW, List.getElem?_cons_succ] at h
   rw [mkW_get h]
   congr 1
   omega
theorem once_seg {l : List Str} {r : List Wd} {f : Int} : ∀ (n d : Nat), d + n ≤ (mkW 3 0 0 l).length → Once (mkW 3 0 0 l) r (((d + n : Nat) : Int) - 1) f → Once (mkW 3 0 0 l) (((mkW 3 0 0 l).drop d).take n ++ r) ((d : Int) - 1) f
 | 0, d, h, hr => by simpa using hr
 | n + 1, d, h, hr => by
   have hlt : d < (mkW 3 0 0 l).length := by omega
   obtain ⟨x, hx⟩ : ∃ x, (mkW 3 0 0 l)[d]? = some x := ⟨_, List.getElem?_eq_getElem hlt⟩
   have hm := mkW_get hx
   have hd : (mkW 3 0 0 l).drop d = x :: (mkW 3 0 0 l).drop (d + 1) := by
     rw [List.drop_eq_getElem_cons hlt]
     congr 1
     exact (List.getElem?_eq_some_iff.1 hx).2
   rw [hd, List.take_succ_cons, List.cons_append]
   have ih := once_seg (l := l) (f := f) (r := r) n (d + 1) (by omega) (by rw [show d + 1 + n = d + (n + 1) by omega]; exact hr)
   refine ⟨fun _ => ?_, fun e => absurd (by rw [hm]) e⟩
   rw [hm]
   refine ⟨by show (d : Int) - 1 < 0 + (d : Int); omega, by show 0 + (d : Int) < _; omega, by rw [show (0 + (d : Int)).toNat = d by omega]; exact hx, ?_⟩
   rw [show (((d + 1 : Nat) : Int) - 1) = 0 + (d : Int) by omega] at ih
   exact ih
theorem once_spl {l : List Str} {dr : Nat} {nw : List Str} : ∀ (c : List Nat) (k d : Nat), OkAt (mkW 3 0 0 l).length dr d c → Once (mkW 3 0 0 l) (spl (mkW 3 0 0 l) dr nw 7 1 k d c) ((d : Int) - 1) ((k : Int) * ((nw.length : Nat) : Int))
 | [], k, d, h => by
   have hd : d ≤ (mkW 3 0 0 l).length := h
   have := once_seg (l := l) (r := []) (f := (k : Int) * ((nw.length : Nat) : Int)) ((mkW 3 0 0 l).length - d) d (by omega) trivial
   rw [List.append_nil, List.take_of_length_le (by rw [List.length_drop]; exact Nat.le_refl _)] at this
   exact this
 | t :: r, k, d, ⟨h1, h2, h3⟩ => by
   have ih := once_spl (nw := nw) r (k + 1) (t + dr) h3
   show Once _ (((mkW 3 0 0 l).drop d).take (t - d) ++ mkW 7 1 ((k : Int) * ((nw.length : Nat) : Int)) nw ++ spl (mkW 3 0 0 l) dr nw 7 1 (k + 1) (t + dr) r) _ _
   rw [List.append_assoc]
   refine once_seg (t - d) d (by omega) (once_mkW ?_)
   rw [show ((k : Int) * ((nw.length : Nat) : Int)) + ((nw.length : Nat) : Int) = ((k + 1 : Nat) : Int) * ((nw.length : Nat) : Int) by rw [Int.natCast_add, Int.add_mul]; omega]
   exact once_mono (by omega) ih
theorem once_spl0 {l : List Str} {dr : Nat} {nw : List Str} {c : List Nat} (h : OkAt (mkW 3 0 0 l).length dr 0 c) : Once (mkW 3 0 0 l) (spl (mkW 3 0 0 l) dr nw 7 1 0 0 c) (-1) 0 := by
 have := once_spl (nw := nw) c 0 0 h
 rw [show (((0 : Nat) : Int) * ((nw.length : Nat) : Int)) = 0 by simp] at this
 exact this
theorem repA_once {l p nw : List Str} {nth : Int} (h : (repA (mkW 3 0 0 l) p nw nth 7 1).2 = 0) : Once (mkW 3 0 0 l) (repA (mkW 3 0 0 l) p nw nth 7 1).1 (-1) 0 := by
 unfold repA at h ⊢
 split at h
 · exact absurd h (by decide)
 · rename_i h1
   rw [if_neg h1]
   split at h
   · exact absurd h (by decide)
   · rename_i h2
     rw [if_neg h2]
     split at h
     · exact absurd h (by decide)
     · rename_i h3
       rw [if_neg h3]
       exact once_spl0 (ok_occs (by omega) nth)
theorem heldW_once {w T : List Wd} (hT : Once w T (-1) 0) (hl : w.length < T.length) (h : (heldW T).2 = 0) : Once w (heldW T).1 (-1) 0 ∧ w.length < (heldW T).1.length := by
 unfold heldW at h ⊢
 split at h
 · exact absurd h (by decide)
 · rename_i h1
   rw [if_neg h1]
   exact ⟨hT, hl⟩
theorem spl_more {w : List Wd} {nw : List Str} {c : List Nat} (h : OkAt w.length 0 0 c) (hc : 0 < c.length) (hn : 0 < nw.length) : w.length < (spl w 0 nw 7 1 0 0 c).length := by
 have hl := spl_len (nw := nw) (a := 7) (i := 1) (k := 0) h
 have : 0 < ((c.length : Nat) : Int) * (((nw.length : Nat) : Int) - ((0 : Nat) : Int)) := Int.mul_pos (by omega) (by omega)
 omega
theorem insW_once {l p nw : List Str} {nth : Int} (h : (insW (mkW 3 0 0 l) p nw nth 7 1).2 = 0) : Once (mkW 3 0 0 l) (insW (mkW 3 0 0 l) p nw nth 7 1).1 (-1) 0 ∧ (mkW 3 0 0 l).length < (insW (mkW 3 0 0 l) p nw nth 7 1).1.length := by
 unfold insW at h ⊢
 split at h
 · exact absurd h (by decide)
 · rename_i h1
   rw [if_neg h1]
   split at h
   · rename_i h2
     rw [if_pos h2]
     have hok : OkAt (mkW 3 0 0 l).length 0 0 [0] := ⟨Nat.zero_le _, Nat.zero_le _, Nat.zero_le _⟩
     exact heldW_once (once_spl0 hok) (spl_more hok (by decide) (by omega)) h
   · rename_i h2
     rw [if_neg h2]
     split at h
     · exact absurd h (by decide)
     · rename_i h3
       rw [if_neg h3]
       have hok := ok_up (ok_occs (w := mkW 3 0 0 l) (p := p) (by omega) nth)
       exact heldW_once (once_spl0 hok) (spl_more hok (by rw [List.length_map]; omega) (by omega)) h
theorem once_pc (w a : List Wd) (_hw : w.length ≤ 1000000000) (ha : a.length ≤ 1000000000) (hO : Once w a (-1) 0) : PC Try.prog env0 32 [.sl 4 (a.map wdv), .sl 4 (w.map wdv)] [.bool true] := by
 have h1 : (a.map wdv).length = a.length := List.length_map _
 have h2 : (w.map wdv).length = w.length := List.length_map _
 refine PC.of_va (T := tbz) eqs3_ok tb3_ok rfl mixed Try.func32 rfl rfl (Nat.le_of_ble_eq_true rfl) ?_; intro Γ C WK LP fin h0 hW hC hB hR hLP hfin
 (try (conv => whnf)); (repeat ((first | refine qT ?_ | refine qF ?_ | refine qO ?_ | (with_reducible intro z hz); (first | (replace hz := hz (by omega); subst hz) | subst hz)); (try (conv => whnf))))
 refine hLP _ _ _ (Nat × Int × Int) (fun q => ⟨[(0, .imm (.sl 4 (a.map wdv))), (1, .imm (.sl 4 (w.map wdv))), (5, .imm (.int .i64 q.2.1)), (6, .imm (.int .i64 q.2.2)), (7, .imm (.int .i64 (q.1 : Nat)))], []⟩) (fun q => q.1 ≤ a.length ∧ -1 ≤ q.2.1 ∧ 0 ≤ q.2.2 ∧ q.2.2 ≤ q.1 ∧ Once w (a.drop q.1) q.2.1 q.2.2) (fun q => a.length - q.1) (0, -1, 0) ⟨Nat.zero_le _, by decide, by decide, by decide, hO⟩ (qSL 0 rfl rfl) ?_
 rintro ⟨k, o, f⟩ ⟨hk, ho, hf0, hf, hon⟩
 dsimp only at hk ho hf0 hf hon ⊢
 have hho := Nat.lt_or_ge k a.length
 cases hho with
 | inl hlt =>
   obtain ⟨x, hx⟩ : ∃ x, a[k]? = some x := ⟨a[k], List.getElem?_eq_getElem hlt⟩
   have hd : a.drop k = x :: a.drop (k + 1) := by
     rw [List.drop_eq_getElem_cons hlt]
     congr 1
     exact (List.getElem?_eq_some_iff.1 hx).2
   rw [hd] at hon
   obtain ⟨g1, g2⟩ := hon
   obtain ⟨s, ⟨mx, my, mz⟩⟩ := x
   dsimp only at g1 g2
   by_cases hm : mx = 3
   · subst hm
     obtain ⟨e1, e2, e3, e4⟩ := g1 rfl
     obtain ⟨j, rfl⟩ : ∃ j : Nat, mz = (j : Int) := ⟨mz.toNat, by omega⟩
     rw [Int.toNat_natCast] at e3
     have hi := wd_eq (rfl : (⟨s, ⟨3, my, (j : Int)⟩⟩ : Wd) = ⟨s, ⟨3, my, (j : Int)⟩⟩)
     (try (conv => whnf)); (repeat ((first | refine qT ?_ | refine qF ?_ | refine qO ?_ | (with_reducible intro z hz); (first | (replace hz := hz (by omega); subst hz) | subst hz)); (try (conv => whnf))))
     refine Idx.mk k (wdv ⟨s, ⟨3, my, (j : Int)⟩⟩) _ rfl (by simp [hx]) rfl ?_
     (try (conv => whnf)); (repeat ((first | refine qT ?_ | refine qF ?_ | refine qO ?_ | (with_reducible intro z hz); (first | (replace hz := hz (by omega); subst hz) | subst hz)); (try (conv => whnf))))
     refine Idx.mk k (wdv ⟨s, ⟨3, my, (j : Int)⟩⟩) _ rfl (by simp [hx]) rfl ?_
     (try (conv => whnf)); (repeat ((first | refine qT ?_ | refine qF ?_ | refine qO ?_ | (with_reducible intro z hz); (first | (replace hz := hz (by omega); subst hz) | subst hz)); (try (conv => whnf))))
     refine Idx.mk k (wdv ⟨s, ⟨3, my, (j : Int)⟩⟩) _ rfl (by simp [hx]) rfl ?_
     (try (conv => whnf)); (repeat ((first | refine qT ?_ | refine qF ?_ | refine qO ?_ | (with_reducible intro z hz); (first | (replace hz := hz (by omega); subst hz) | subst hz)); (try (conv => whnf))))
     refine Idx.mk k (wdv ⟨s, ⟨3, my, (j : Int)⟩⟩) _ rfl (by simp [hx]) rfl ?_
     (try (conv => whnf)); (repeat ((first | refine qT ?_ | refine qF ?_ | refine qO ?_ | (with_reducible intro z hz); (first | (replace hz := hz (by omega); subst hz) | subst hz)); (try (conv => whnf))))
     refine Idx.mk k (wdv ⟨s, ⟨3, my, (j : Int)⟩⟩) _ rfl (by simp [hx]) rfl ?_
     (try (conv => whnf)); (repeat ((first | refine qT ?_ | refine qF ?_ | refine qO ?_ | (with_reducible intro z hz); (first | (replace hz := hz (by omega); subst hz) | subst hz)); (try (conv => whnf))))
     refine Idx.mk j (wdv ⟨s, ⟨3, my, (j : Int)⟩⟩) _ rfl (by simp [e3]) rfl ?_
     (try (conv => whnf)); (repeat ((first | refine qT ?_ | refine qF ?_ | refine qO ?_ | (with_reducible intro z hz); (first | (replace hz := hz (by omega); subst hz) | subst hz)); (try (conv => whnf))))
     refine Idx.mk k (wdv ⟨s, ⟨3, my, (j : Int)⟩⟩) _ rfl (by simp [hx]) rfl ?_
     (try (conv => whnf)); (repeat ((first | refine qT ?_ | refine qF ?_ | refine qO ?_ | (with_reducible intro z hz); (first | (replace hz := hz (by omega); subst hz) | subst hz)); (try (conv => whnf))))
     exact ⟨(k + 1, (j : Int), f), ⟨by dsimp only; omega, by dsimp only; omega, hf0, by dsimp only; omega, e4⟩, by dsimp only; omega, (qSL 0 rfl rfl)⟩
   · obtain ⟨e1, e2⟩ := g2 hm
     obtain ⟨rfl, rfl, rfl⟩ : mx = 7 ∧ my = 1 ∧ mz = f := by injection e1 with e1 e2 e3; exact ⟨e1, e2, e3⟩
     have hi : eqC [IV.int .i64 7, .int .i64 1, .int .i64 mz] [.int .i64 7, .int .i64 1, .int .i64 mz] = true := by simp [eqC]
     (try (conv => whnf)); (repeat ((first | refine qT ?_ | refine qF ?_ | refine qO ?_ | (with_reducible intro z hz); (first | (replace hz := hz (by omega); subst hz) | subst hz)); (try (conv => whnf))))
     refine Idx.mk k (wdv ⟨s, ⟨7, 1, mz⟩⟩) _ rfl (by simp [hx]) rfl ?_
     (try (conv => whnf)); (repeat ((first | refine qT ?_ | refine qF ?_ | refine qO ?_ | (with_reducible intro z hz); (first | (replace hz := hz (by omega); subst hz) | subst hz)); (try (conv => whnf))))
     refine Idx.mk k (wdv ⟨s, ⟨7, 1, mz⟩⟩) _ rfl (by simp [hx]) rfl ?_
     (try (conv => whnf)); (repeat ((first | refine qT ?_ | refine qF ?_ | refine qO ?_ | (with_reducible intro z hz); (first | (replace hz := hz (by omega); subst hz) | subst hz)); (try (conv => whnf))))
     exact ⟨(k + 1, o, mz + 1), ⟨by dsimp only; omega, ho, by dsimp only; omega, by dsimp only; omega, e2⟩, by dsimp only; omega, (qSL 0 rfl rfl)⟩
 | inr hge =>
   (try (conv => whnf)); (repeat ((first | refine qT ?_ | refine qF ?_ | refine qO ?_ | (with_reducible intro z hz); (first | (replace hz := hz (by omega); subst hz) | subst hz)); (try (conv => whnf))))
   exact hfin _ (ILes.refl _)
end Go.Proofs.Ytcgdanbmgeoneaa.Pw
