/-
  The law of events.
-/
import Derived.Test.YtmgjpmjmondplaaWAm
namespace Go.Proofs.Ytmgjpmjmondplaa.Pe
open Go Go.Pv Go.RowKit
set_option linter.unusedSimpArgs false
open Spans Rm
set_option maxRecDepth 10000
set_option maxHeartbeats 32000000
theorem dcl_step (e : En) (P : Int → Bool) (ev : Str) (day : Int) : stepD e P (dclE ev day) = P := step_no (by unfold refers dclE; simp)
theorem dq_dcl (name ev : Str) (day : Int) : dq name (dclE ev day) = decide (ev = name) := by unfold dq dclE; simp
theorem force_dcl {a : St} {e : En} {l : List En} {day : Int} (h : (evD a.e l).isSome = true ∨ ¬ (effS a e.it.st).k = 3 ∨ ¬ (effS a e.it.st).e = a.e) : forceL a e (l ++ [dclE a.e day]) = forceL a e l := by
 unfold forceL
 rw [days_snoc, dcl_step]
 have : stD (effS a e.it.st) (l ++ [dclE a.e day]) = stD (effS a e.it.st) l := by
   generalize effS a e.it.st = r at *
   unfold stD
   by_cases h3 : r.k = 3
   · rw [if_pos h3, if_pos h3, evD_snoc, dq_dcl]
     cases hq : evD r.e l with
     | some t => rfl
     | none =>
       have hne : ¬ a.e = r.e := by
         rcases h with h | h | h
         · intro e; rw [e, hq] at h; cases h
         · exact absurd h3 h
         · exact fun e => h e.symm
       rw [decide_eq_false hne]
       rfl
   · rw [if_neg h3, if_neg h3]
 rw [this]
theorem days_none (e : En) : ∀ (l : List En) (P : Int → Bool), (∀ x ∈ l, refers x.it e.act e.item = false) → daysP P e l = P
 | [], _, _ => rfl
 | x :: l, P, h => by
   show daysP (stepD e P x) e l = P
   rw [step_no (h x List.mem_cons_self)]
   exact days_none e l P fun y hy => h y (List.mem_cons_of_mem _ hy)
theorem force_none {a : St} {e : En} {l : List En} (h1 : (evD a.e l).isSome = false) (h2 : (effS a e.it.st).k = 3) (h3 : (effS a e.it.st).e = a.e) (hr : ∀ x ∈ l, refers x.it e.act e.item = false) : forceL a e l = [] := by
 unfold forceL
 split
 · rw [days_none e l _ hr]
   have : stD (effS a e.it.st) l = none := by
     unfold stD
     rw [if_neg (by omega), if_pos h2, h3]
     cases hq : evD a.e l with
     | none => rfl
     | some t => rw [hq] at h1; cases h1
   rw [this, day_none]
 · rfl
theorem lawEvent (a : St) (e : En) (l : List En) (day : Int) (ha : a.e.size ≤ 9223372036854775807) (h : InE e l) : PC Try.prog env0 8 [stv a, env1 e, .sl 28 (l.map env1), .int .i64 day] [.bool true] := by
 have hA := awake_pc
 have hF := few2_pc e l h
 have hml : (l.map env1).length = l.length := List.length_map _
 have hb := h.1
 rw [env_eq e]
 unfold stv
 cases hfe : fewE (e :: l) with
 | false =>
   rw [hfe] at hF
   refine PC.of_va (T := tb0) eqs_ok tb_ok rfl mixed Try.func8 rfl rfl (Nat.le_of_ble_eq_true rfl) ?_; intro Γ C WK LP fin h0 hW hC hB hR hLP hfin
   (try (conv => whnf)); (repeat ((first | refine qT ?_ | refine qF ?_ | refine qO ?_ | (with_reducible intro z hz); (first | (replace hz := hz (by omega); subst hz) | subst hz) | (refine CallV.mk _ (hC _ _ _ (PCw.of hA)) (fun js hjs => ?_); subst hjs)); (try (conv => whnf))))
   refine Imms.mk ((e :: l).map env1) rfl ?_
   (try (conv => whnf)); (repeat ((first | refine qT ?_ | refine qF ?_ | refine qO ?_ | (with_reducible intro z hz); (first | (replace hz := hz (by omega); subst hz) | subst hz) | (refine CallV.mk _ (hC _ _ _ (PCw.of hF)) (fun js hjs => ?_); subst hjs) | (refine CallV.mk _ (hC _ _ _ (PCw.of hA)) (fun js hjs => ?_); subst hjs)); (try (conv => whnf))))
   exact hfin _ (ILes.refl _)
 | true =>
   have hle := few_le hfe
   rw [hfe] at hF
   by_cases h1 : a.e.size ≤ 100
   rotate_left
   · refine PC.of_va (T := tb0) eqs_ok tb_ok rfl mixed Try.func8 rfl rfl (Nat.le_of_ble_eq_true rfl) ?_; intro Γ C WK LP fin h0 hW hC hB hR hLP hfin
     (try (conv => whnf)); (repeat ((first | refine qT ?_ | refine qF ?_ | refine qO ?_ | (with_reducible intro z hz); (first | (replace hz := hz (by omega); subst hz) | subst hz) | (refine CallV.mk _ (hC _ _ _ (PCw.of hA)) (fun js hjs => ?_); subst hjs)); (try (conv => whnf))))
     refine Imms.mk ((e :: l).map env1) rfl ?_
     (try (conv => whnf)); (repeat ((first | refine qT ?_ | refine qF ?_ | refine qO ?_ | (with_reducible intro z hz); (first | (replace hz := hz (by omega); subst hz) | subst hz) | (refine CallV.mk _ (hC _ _ _ (PCw.of hF)) (fun js hjs => ?_); subst hjs) | (refine CallV.mk _ (hC _ _ _ (PCw.of hA)) (fun js hjs => ?_); subst hjs)); (try (conv => whnf))))
     exact hfin _ (ILes.refl _)
   have hI := inforce_pc a e l (by omega)
   have hI2 := inforce_pc a e (l ++ [dclE a.e day]) (by rw [List.length_append, List.length_singleton]; omega)
   have hE := eventday_pc a.e l (by omega)
   have hX := effective_pc a e.it.st
   have hcl := force_len a e l
   have hfd := force_dcl (a := a) (e := e) (l := l) (day := day)
   have hfn := force_none (a := a) (e := e) (l := l)
   generalize effS a e.it.st = r at *
   generalize (evD a.e l).getD 0 = d0 at *
   generalize hok : (evD a.e l).isSome = ok at *
   rw [env_eq e] at hI hI2
   unfold stv at hI hI2 hX
   by_cases hc : ok = true ∨ ¬ r.k = 3 ∨ ¬ r.e = a.e
   · rw [hfd hc] at hI2
     have hQ := same_self (forceL a e l) (by omega)
     clear hfd hfn
     generalize forceL a e l = D at *
     by_cases hc1 : ok = true
     · subst hc1
       refine PC.of_va (T := tb0) eqs_ok tb_ok rfl mixed Try.func8 rfl rfl (Nat.le_of_ble_eq_true rfl) ?_; intro Γ C WK LP fin h0 hW hC hB hR hLP hfin
       (try (conv => whnf)); (repeat ((first | refine qT ?_ | refine qF ?_ | refine qO ?_ | (with_reducible intro z hz); (first | (replace hz := hz (by omega); subst hz) | subst hz) | (refine CallV.mk _ (hC _ _ _ (PCw.of hA)) (fun js hjs => ?_); subst hjs)); (try (conv => whnf))))
       refine Imms.mk ((e :: l).map env1) rfl ?_
       (try (conv => whnf)); (repeat ((first | refine qT ?_ | refine qF ?_ | refine qO ?_ | (with_reducible intro z hz); (first | (replace hz := hz (by omega); subst hz) | subst hz) | (refine CallV.mk _ (hC _ _ _ (PCw.of hF)) (fun js hjs => ?_); subst hjs) | (refine CallV.mk _ (hC _ _ _ (PCw.of hI)) (fun js hjs => ?_); subst hjs)); (try (conv => whnf))))
       refine Imms.mk ((l ++ [dclE a.e day]).map env1) (by simp [dclE]; rfl) ?_
       (try (conv => whnf)); (repeat ((first | refine qT ?_ | refine qF ?_ | refine qO ?_ | (with_reducible intro z hz); (first | (replace hz := hz (by omega); subst hz) | subst hz) | (refine CallV.mk _ (hC _ _ _ (PCw.of hI2)) (fun js hjs => ?_); subst hjs) | (refine CallV.mk _ (hC _ _ _ (PCw.of hE)) (fun js hjs => ?_); subst hjs) | (refine CallV.mk _ (hC _ _ _ (PCw.of hX)) (fun js hjs => ?_); subst hjs) | (refine CallV.mk _ (hC _ _ _ (PCw.of hQ)) (fun js hjs => ?_); subst hjs)); (try (conv => whnf))))
       exact hfin _ (ILes.refl _)
     · obtain rfl : ok = false := by simpa using hc1
       by_cases hc2 : r.k = 3
       · have hc3 : ¬ r.e = a.e := by
           rcases hc with h | h | h
           · exact absurd h (by simp)
           · exact absurd hc2 h
           · exact h
         refine PC.of_va (T := tb0) eqs_ok tb_ok rfl mixed Try.func8 rfl rfl (Nat.le_of_ble_eq_true rfl) ?_; intro Γ C WK LP fin h0 hW hC hB hR hLP hfin
         (try (conv => whnf)); (repeat ((first | refine qT ?_ | refine qF ?_ | refine qO ?_ | (with_reducible intro z hz); (first | (replace hz := hz (by omega); subst hz) | subst hz) | (refine CallV.mk _ (hC _ _ _ (PCw.of hA)) (fun js hjs => ?_); subst hjs)); (try (conv => whnf))))
         refine Imms.mk ((e :: l).map env1) rfl ?_
         (try (conv => whnf)); (repeat ((first | refine qT ?_ | refine qF ?_ | refine qO ?_ | (with_reducible intro z hz); (first | (replace hz := hz (by omega); subst hz) | subst hz) | (refine CallV.mk _ (hC _ _ _ (PCw.of hF)) (fun js hjs => ?_); subst hjs) | (refine CallV.mk _ (hC _ _ _ (PCw.of hI)) (fun js hjs => ?_); subst hjs)); (try (conv => whnf))))
         refine Imms.mk ((l ++ [dclE a.e day]).map env1) (by simp [dclE]; rfl) ?_
         (try (conv => whnf)); (repeat ((first | refine qT ?_ | refine qF ?_ | refine qO ?_ | (with_reducible intro z hz); (first | (replace hz := hz (by omega); subst hz) | subst hz) | (refine CallV.mk _ (hC _ _ _ (PCw.of hI2)) (fun js hjs => ?_); subst hjs) | (refine CallV.mk _ (hC _ _ _ (PCw.of hE)) (fun js hjs => ?_); subst hjs) | (refine CallV.mk _ (hC _ _ _ (PCw.of hX)) (fun js hjs => ?_); subst hjs) | (refine CallV.mk _ (hC _ _ _ (PCw.of hQ)) (fun js hjs => ?_); subst hjs)); (try (conv => whnf))))
         exact hfin _ (ILes.refl _)
       · refine PC.of_va (T := tb0) eqs_ok tb_ok rfl mixed Try.func8 rfl rfl (Nat.le_of_ble_eq_true rfl) ?_; intro Γ C WK LP fin h0 hW hC hB hR hLP hfin
         (try (conv => whnf)); (repeat ((first | refine qT ?_ | refine qF ?_ | refine qO ?_ | (with_reducible intro z hz); (first | (replace hz := hz (by omega); subst hz) | subst hz) | (refine CallV.mk _ (hC _ _ _ (PCw.of hA)) (fun js hjs => ?_); subst hjs)); (try (conv => whnf))))
         refine Imms.mk ((e :: l).map env1) rfl ?_
         (try (conv => whnf)); (repeat ((first | refine qT ?_ | refine qF ?_ | refine qO ?_ | (with_reducible intro z hz); (first | (replace hz := hz (by omega); subst hz) | subst hz) | (refine CallV.mk _ (hC _ _ _ (PCw.of hF)) (fun js hjs => ?_); subst hjs) | (refine CallV.mk _ (hC _ _ _ (PCw.of hI)) (fun js hjs => ?_); subst hjs)); (try (conv => whnf))))
         refine Imms.mk ((l ++ [dclE a.e day]).map env1) (by simp [dclE]; rfl) ?_
         (try (conv => whnf)); (repeat ((first | refine qT ?_ | refine qF ?_ | refine qO ?_ | (with_reducible intro z hz); (first | (replace hz := hz (by omega); subst hz) | subst hz) | (refine CallV.mk _ (hC _ _ _ (PCw.of hI2)) (fun js hjs => ?_); subst hjs) | (refine CallV.mk _ (hC _ _ _ (PCw.of hE)) (fun js hjs => ?_); subst hjs) | (refine CallV.mk _ (hC _ _ _ (PCw.of hX)) (fun js hjs => ?_); subst hjs) | (refine CallV.mk _ (hC _ _ _ (PCw.of hQ)) (fun js hjs => ?_); subst hjs)); (try (conv => whnf))))
         exact hfin _ (ILes.refl _)
   · have c1 : ok = false := by cases ok; rfl; exact absurd (Or.inl rfl) hc
     have c2 : r.k = 3 := Decidable.byContradiction fun h => hc (Or.inr (Or.inl h))
     have c3 : r.e = a.e := Decidable.byContradiction fun h => hc (Or.inr (Or.inr h))
     have hfn2 := hfn c1 c2 c3
     subst c1
     clear hfd hc
     generalize forceL a e l = D at *
     generalize forceL a e (l ++ [dclE a.e day]) = D2 at *
     refine PC.of_va (T := tb0) eqs_ok tb_ok rfl mixed Try.func8 rfl rfl (Nat.le_of_ble_eq_true rfl) ?_; intro Γ C WK LP fin h0 hW hC hB hR hLP hfin
     (try (conv => whnf)); (repeat ((first | refine qT ?_ | refine qF ?_ | refine qO ?_ | (with_reducible intro z hz); (first | (replace hz := hz (by omega); subst hz) | subst hz) | (refine CallV.mk _ (hC _ _ _ (PCw.of hA)) (fun js hjs => ?_); subst hjs)); (try (conv => whnf))))
     refine Imms.mk ((e :: l).map env1) rfl ?_
     (try (conv => whnf)); (repeat ((first | refine qT ?_ | refine qF ?_ | refine qO ?_ | (with_reducible intro z hz); (first | (replace hz := hz (by omega); subst hz) | subst hz) | (refine CallV.mk _ (hC _ _ _ (PCw.of hF)) (fun js hjs => ?_); subst hjs) | (refine CallV.mk _ (hC _ _ _ (PCw.of hI)) (fun js hjs => ?_); subst hjs)); (try (conv => whnf))))
     refine Imms.mk ((l ++ [dclE a.e day]).map env1) (by simp [dclE]; rfl) ?_
     (try (conv => whnf)); (repeat ((first | refine qT ?_ | refine qF ?_ | refine qO ?_ | (with_reducible intro z hz); (first | (replace hz := hz (by omega); subst hz) | subst hz) | (refine CallV.mk _ (hC _ _ _ (PCw.of hI2)) (fun js hjs => ?_); subst hjs) | (refine CallV.mk _ (hC _ _ _ (PCw.of hE)) (fun js hjs => ?_); subst hjs) | (refine CallV.mk _ (hC _ _ _ (PCw.of hX)) (fun js hjs => ?_); subst hjs)); (try (conv => whnf))))
     refine hLP _ _ _ Nat (fun k => ⟨[(5, .ptr 1 1 0), (9, .imm (.sl 2 (D.map spv))), (78, .imm (.sl 28 (l.map env1))), (79, .imm (.int .i64 (l.length : Nat))), (80, .imm (.int .i64 (k : Nat)))], [bxS a, bxE e]⟩) (fun k => k ≤ l.length ∧ ∀ x ∈ l.take k, refers x.it e.act e.item = false) (fun k => l.length - k) 0 ⟨Nat.zero_le _, by simp⟩ (qSL 2 rfl rfl (hE := by (repeat ((conv => whnf); first | exact trivial | refine And.intro (by first | exact WkOne.any | exact WkOne.eq (by with_reducible rfl) rfl | exact WkOne.eq (congrArg (fun z => PV.imm (IV.int IntKind.i64 z)) (by first | omega | (simp [hml]; done) | (simp [hml]; omega))) rfl | exact WkOne.eq (by first | (simp [hml]; done) | fail) rfl | exact WkOne.eq rfl rfl | exact WkOne.le rfl (ILe.nil _)) ?_)))) ?_
     rintro k ⟨hk, hp⟩
     have hho := Nat.lt_or_ge k l.length
     cases hho with
     | inl hlt =>
       obtain ⟨x, hx⟩ : ∃ x, l[k]? = some x := ⟨l[k], List.getElem?_eq_getElem hlt⟩
       have hRf := refers_pc x.it e.act e.item
       rw [imv_eq] at hRf
       cases hr : refers x.it e.act e.item with
       | true =>
         rw [hr] at hRf
         (try (conv => whnf)); (repeat ((first | refine qT ?_ | refine qF ?_ | refine qO ?_ | (with_reducible intro z hz); (first | (replace hz := hz (by omega); subst hz) | subst hz)); (try (conv => whnf))))
         refine Idx.mk k (env1 x) _ rfl (by simp [hx]) rfl ?_
         (try (conv => whnf)); (repeat ((first | refine qT ?_ | refine qF ?_ | refine qO ?_ | (with_reducible intro z hz); (first | (replace hz := hz (by omega); subst hz) | subst hz) | (refine CallV.mk _ (hC _ _ _ (PCw.of hRf)) (fun js hjs => ?_); subst hjs)); (try (conv => whnf))))
         exact hfin _ (ILes.refl _)
       | false =>
         rw [hr] at hRf
         (try (conv => whnf)); (repeat ((first | refine qT ?_ | refine qF ?_ | refine qO ?_ | (with_reducible intro z hz); (first | (replace hz := hz (by omega); subst hz) | subst hz)); (try (conv => whnf))))
         refine Idx.mk k (env1 x) _ rfl (by simp [hx]) rfl ?_
         (try (conv => whnf)); (repeat ((first | refine qT ?_ | refine qF ?_ | refine qO ?_ | (with_reducible intro z hz); (first | (replace hz := hz (by omega); subst hz) | subst hz) | (refine CallV.mk _ (hC _ _ _ (PCw.of hRf)) (fun js hjs => ?_); subst hjs)); (try (conv => whnf))))
         exact ⟨k + 1, ⟨by omega, fun y hy => by
           rw [take_at hx, List.mem_append] at hy
           rcases hy with hy | hy
           · exact hp y hy
           · rw [List.mem_singleton.1 hy]; exact hr⟩, by dsimp only; omega, (qSL 2 rfl rfl)⟩
     | inr hge =>
       obtain rfl : k = l.length := by omega
       rw [List.take_length] at hp
       rw [hfn2 hp]
       (try (conv => whnf)); (repeat ((first | refine qT ?_ | refine qF ?_ | refine qO ?_ | (with_reducible intro z hz); (first | (replace hz := hz (by omega); subst hz) | subst hz)); (try (conv => whnf))))
       exact hfin _ (ILes.refl _)
theorem eventL (a : St) (ha : FitS a) (e : En) (he : FitI e.it) (l : List En) (w : l.length * 392 ≤ 140737488351232 ∧ ∀ x ∈ l, FitI x.it) (day : Int) : PC Try.prog env0 8 [stv a, env1 e, .sl 28 (l.map env1), .int .i64 day] [.bool true] := by
 refine lawEvent a e l day ?_ (.of he w.1 w.2)
 unfold FitS maxLen at ha
 omega
end Go.Proofs.Ytmgjpmjmondplaa.Pe
