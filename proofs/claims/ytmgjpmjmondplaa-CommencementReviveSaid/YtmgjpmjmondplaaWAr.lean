/-
  The law of revivals.
-/
import Derived.Test.YtmgjpmjmondplaaWAm
namespace Go.Proofs.Ytmgjpmjmondplaa.Pe
open Go Go.Pv Go.RowKit
set_option linter.unusedSimpArgs false
open Spans Rm
set_option maxRecDepth 10000
set_option maxHeartbeats 32000000
def ordsE (e : En) (day : Int) (ks : List Int) : List En := ks.map fun k => ordE k e.act e.item day
theorem ords_take {e : En} {day : Int} {ks : List Int} {k : Nat} {x : Int} (hx : ks[k]? = some x) : ordsE e day (ks.take (k + 1)) = ordsE e day (ks.take k) ++ [ordE x e.act e.item day] := by
 unfold ordsE
 rw [take_at hx, List.map_append]
 rfl
theorem PCB.frz {P : Program} {X : Env} {f : FuncId} {args args' res : List PV} {B B' B2 : List Blk} (r : Nat) {e : TypeId} {sz g : Nat} {es : List PV} {is : List IV} (hb : B[r]? = some (.row e sz g es)) (hes : imms es = some is) {i : IV} (hi : ILe (.sl sz is) i)
   (hE : fzL r g i args = args') (hB : (B.map (fzB r g i)).set r (.dead g) = B') (h : PCB P X f args' B' res B2) : PCB P X f args B res B2 := by
 obtain ⟨h1, h2, h3⟩ := h
 have hlen : B'.length = B.length := by rw [← hB]; simp
 refine ⟨h1, by rw [h2, hlen], fun Γ k w vs hΓ hI hT => ?_⟩
 let Γ' : Ctx := ⟨Γ.N, Γ.w0, Γ.X, Γ.Q0, Γ.eqT, Γ.F, w, k, B.length⟩
 have hI' : Inv Γ' k B w := ⟨hI.below, hI.lt, hI.le, hI.qs, hI.rr, hI.gl, hI.blk, hI.sep, hI.inj, ⟨fun b hb => ⟨(hI.kp.fr b hb).1, rfl, (hI.kp.fr b hb).2.2⟩, Ext.refl _ _ _⟩, hI.nf⟩
 obtain ⟨_, k', hJ, hT'⟩ := γ_frz (Γ := Γ') r hb hes hi hE hB (a := ⟨vs.toArray, []⟩) (w := w) ⟨rfl, k, hI', by simpa using hT⟩
 refine (h3 Γ' k' w vs hΓ hJ (by simpa using hT')).mono ?_
 rintro x w' ⟨v, k2, e1, hE2, hK, hr⟩
 rw [hlen] at hE2 hr
 have hx : Ext k B.length w k' B.length w := by have := hJ.kp.ext; rw [hlen] at this; exact this
 exact ⟨v, k2, e1, hx.trans hE2, ⟨hK.below, hK.lt, hK.le, hK.qs, hK.rr, hK.gl, hK.blk, hK.sep, hK.inj, ⟨fun b hb => ⟨(hK.kp.fr b hb).1, (hK.kp.fr b hb).2.1.trans (hI.kp.fr b hb).2.1, (hK.kp.fr b hb).2.2⟩, hI.kp.ext.trans hK.kp.ext⟩, hK.nf⟩, hr⟩
theorem imms_mapI : ∀ is : List IV, imms (is.map .imm) = some is
 | [] => rfl
 | i :: is => by simp only [List.map_cons, imms, imms_mapI is]
abbrev capB (a : St) (e : En) (l : List En) (day : Int) : List Blk := [.box 1 [.imm (.sl 28 (l.map env1))], bxE e, .box 1 [.imm (.int .i64 day)], bxS a, .dead 1]
abbrev capD (a : St) (e : En) (l : List En) (day : Int) (ks : List Int) : List Blk := [.box 1 [.imm (.sl 28 (l.map env1))], bxE e, .box 1 [.imm (.int .i64 day)], bxS a, .row 3 1 1 ((ks.map fun k => IV.int .i64 k).map .imm)]
abbrev capC (a : St) (e : En) (l : List En) (day : Int) : List CBk := [.box 1 [.imm (.sl 28 (l.map env1))], .box 1 [.imm (.int .i64 e.act), .imm (.int .i64 e.item), .imm (.int .i64 e.day), .imm (.int .i64 e.it.kind), .imm (e.it.m 1), .imm (e.it.m 2), .imm (e.it.m 3), .imm (e.it.m 4), .imm (e.it.m 5), .imm (e.it.m 6), .imm (e.it.m 7), .imm (e.it.m 8), .imm (e.it.m 9), .imm (e.it.m 10), .imm (e.it.m 11), .imm (e.it.m 12), .imm (e.it.m 13), .imm (e.it.m 14), .imm (e.it.m 15), .imm (e.it.m 16), .imm (.int .i64 e.it.st.k), .imm (.int .i64 e.it.st.d), .imm (.str e.it.st.e), .imm (.int .i64 e.it.a), .imm (.int .i64 e.it.i), .imm (.int .i64 e.it.d), .imm (.str e.it.ev), .imm e.it.b], .box 1 [.imm (.int .i64 day)], .box 1 [.imm (.int .i64 a.k), .imm (.int .i64 a.d), .imm (.str a.e)], .dead 1]
theorem tell_pcb (a : St) (e : En) (l : List En) (day : Int) (ks : List Int) (hl : l.length ≤ 100) (hk : ks.length ≤ 10) : PCB Try.prog env0 25 [.imm (.sl 1 (ks.map fun k => .int .i64 k)), .ptr 0 1 0, .ptr 1 1 0, .ptr 2 1 0, .ptr 3 1 0] (capB a e l day) [.imm (.sl 2 ((forceL a e (l ++ ordsE e day ks)).map spv))] (capB a e l day) := by
 have hkl : (ks.map fun k => IV.int .i64 k).length = ks.length := List.length_map _
 have hml : (l.map env1).length = l.length := List.length_map _
 have hol : (l ++ ordsE e day ks).length = l.length + ks.length := by unfold ordsE; rw [List.length_append, List.length_map]
 have hI := inforce_pc a e (l ++ ordsE e day ks) (by omega)
 rw [env_eq e] at hI
 unfold stv at hI
 refine PCB.of_va (T := tb0) eqs_ok tb_ok rfl mixed Try.func25 rfl rfl rfl (Nat.le_of_ble_eq_true rfl) rfl ?_; intro Γ C WK LP fin h0 hk0 hW hC hB hR hLP hfin
 (try (conv => whnf)); (repeat ((first | refine qT ?_ | refine qF ?_ | refine qO ?_ | (with_reducible intro z hz); (first | (replace hz := hz (by omega); subst hz) | subst hz)); (try (conv => whnf))))
 refine hLP _ _ _ Nat (fun k => ⟨[(1, .ptr 0 1 0), (2, .ptr 1 1 0), (3, .ptr 2 1 0), (4, .ptr 3 1 0), (7, .row 5 2), (13, .imm (.sl 1 (ks.map fun k => .int .i64 k))), (14, .imm (.int .i64 (ks.length : Nat))), (15, .imm (.int .i64 (k : Nat)))], [.box 1 [.imm (.sl 28 (l.map env1))], bxE e, .box 1 [.imm (.int .i64 day)], bxS a, .dead 1, .row 49 28 2 (((l ++ ordsE e day (ks.take k)).map env1).map .imm)]⟩) (fun k => k ≤ ks.length) (fun k => ks.length - k) 0 (Nat.zero_le _) ((WeakA.row 5 (((l ++ ordsE e day (ks.take 0)).map env1).map .imm) rfl (by simp [ordsE])).trans (qSL 6 rfl rfl (hE := by (repeat ((conv => whnf); first | exact trivial | refine And.intro (by first | exact WkOne.any | exact WkOne.eq (by with_reducible rfl) rfl | exact WkOne.eq (congrArg (fun z => PV.imm (IV.int IntKind.i64 z)) (by first | omega | (simp [hkl]; done) | (simp [hkl]; omega))) rfl | exact WkOne.eq (by first | (simp [hkl]; done) | fail) rfl | exact WkOne.eq rfl rfl | exact WkOne.le rfl (ILe.nil _)) ?_))))) ?_
 intro k hk2
 have hho := Nat.lt_or_ge k ks.length
 cases hho with
 | inl hlt =>
   obtain ⟨x, hx⟩ : ∃ x, ks[k]? = some x := ⟨ks[k], List.getElem?_eq_getElem hlt⟩
   have ht := ords_take (e := e) (day := day) hx
   have hrl : (((l ++ ordsE e day (ks.take k)).map env1).map PV.imm).length ≤ 200 := by
     unfold ordsE
     simp only [List.length_map, List.length_append, List.length_take]
     omega
   generalize ordsE e day (ks.take k) = O1 at *
   (try (conv => whnf)); (repeat ((first | refine qT ?_ | refine qF ?_ | refine qO ?_ | (with_reducible intro z hz); (first | (replace hz := hz (by omega); subst hz) | subst hz)); (try (conv => whnf))))
   refine Idx.mk k (.int .i64 x) _ rfl (by simp [hx]) rfl ?_
   (try (conv => whnf)); (repeat ((first | refine qT ?_ | refine qF ?_ | refine qO ?_ | (with_reducible intro z hz); (first | (replace hz := hz (by omega); subst hz) | subst hz)); (try (conv => whnf))))
   refine Owe.mk (by show _ + 1 ≤ most; unfold most; omega) ?_
   (try (conv => whnf)); (repeat ((first | refine qT ?_ | refine qF ?_ | refine qO ?_ | (with_reducible intro z hz); (first | (replace hz := hz (by omega); subst hz) | subst hz)); (try (conv => whnf))))
   refine ⟨k + 1, by omega, by dsimp only; omega, ?_⟩
   dsimp only []
   rw [ht]
   exact ((WeakA.row 5 (((l ++ (O1 ++ [ordE x e.act e.item day])).map env1).map .imm) rfl (by simp [env1, ordE, mz]))).trans ((WeakA.renew 5 2 rfl (fun hh => absurd hh (by rw [h0]; exact Nat.not_lt_of_le (Nat.le_of_ble_eq_true rfl))) (by repeat (first | exact trivial | refine And.intro (rgL_imms _ _ _ _) ?_ | refine And.intro rfl ?_))).trans (qSL 6 rfl rfl))
 | inr hge =>
   obtain rfl : k = ks.length := by omega
   rw [List.take_length]
   (try (conv => whnf)); (repeat ((first | refine qT ?_ | refine qF ?_ | refine qO ?_ | (with_reducible intro z hz); (first | (replace hz := hz (by omega); subst hz) | subst hz)); (try (conv => whnf))))
   refine Imms.mk ((l ++ ordsE e day ks).map env1) rfl ?_
   (try (conv => whnf)); (repeat ((first | refine qT ?_ | refine qF ?_ | refine qO ?_ | (with_reducible intro z hz); (first | (replace hz := hz (by omega); subst hz) | subst hz) | (refine CallV.mk _ (hC _ _ _ (PCw.of hI)) (fun js hjs => ?_); subst hjs)); (try (conv => whnf))))
   exact hfin _ (qSL 5 rfl rfl)
theorem tellR_pcb (a : St) (e : En) (l : List En) (day : Int) (ks : List Int) (hl : l.length ≤ 100) (hk : ks.length ≤ 10) : PCB Try.prog env0 25 [.row 4 1, .ptr 0 1 0, .ptr 1 1 0, .ptr 2 1 0, .ptr 3 1 0] (capD a e l day ks) [.imm (.sl 2 ((forceL a e (l ++ ordsE e day ks)).map spv))] (capB a e l day) :=
 PCB.frz 4 rfl (imms_mapI _) (ILe.refl _) rfl rfl (tell_pcb a e l day ks hl hk)
theorem ord_ref2 (k act item day : Int) (hk : k = 7 ∨ k = 8 ∨ k = 9) : refers (ordE k act item day).it act item = true := by
 unfold refers ordE
 rw [if_pos hk]
 simp
theorem step8 (e : En) (P : Int → Bool) (day : Int) : stepD e P (ordE 8 e.act e.item day) = fun d => P d && memB [(0, day)] d := step_trunc (ord_ref2 8 e.act e.item day (by omega)) rfl
theorem step79 (e : En) (P : Int → Bool) (k day : Int) (hk : k = 7 ∨ k = 9) : stepD e P (ordE k e.act e.item day) = fun d => P d || memB [(day, 1048577)] d := step_ext (ord_ref2 k e.act e.item day (by omega)) hk
theorem force_ords {a : St} {e : En} {l : List En} {day : Int} (h0 : 0 ≤ e.it.kind) (h6 : e.it.kind ≤ 6) : ∀ ks : List Int, (∀ k ∈ ks, ¬ k = 10) → forceL a e (l ++ ordsE e day ks) = canon ((ordsE e day ks).foldl (stepD e) (daysP (dayP (stD (effS a e.it.st) l)) e l)) := fun ks hk => by
 rw [force_in h0 h6]
 have hs : ∀ (ks : List Int) (l : List En), (∀ k ∈ ks, ¬ k = 10) → stD (effS a e.it.st) (l ++ ordsE e day ks) = stD (effS a e.it.st) l := by
   intro ks
   induction ks with
   | nil => intro l _; simp [ordsE]
   | cons k ks ih =>
     intro l h
     have : l ++ ordsE e day (k :: ks) = (l ++ [ordE k e.act e.item day]) ++ ordsE e day ks := by simp [ordsE]
     rw [this, ih _ (fun x hx => h x (List.mem_cons_of_mem _ hx)), stD_snoc _ _ (h k List.mem_cons_self)]
 rw [hs ks l hk]
 unfold daysP
 rw [List.foldl_append]
theorem same_days {a : St} {e : En} {l : List En} {day : Int} (h0 : 0 ≤ e.it.kind) (h6 : e.it.kind ≤ 6) (ks js : List Int) (hk : ∀ k ∈ ks, ¬ k = 10) (hj : ∀ k ∈ js, ¬ k = 10)
   (h : ∀ (P : Int → Bool) (d : Int), 0 ≤ d → d ≤ 1048576 → (ordsE e day ks).foldl (stepD e) P d = (ordsE e day js).foldl (stepD e) P d) : forceL a e (l ++ ordsE e day ks) = forceL a e (l ++ ordsE e day js) := by
 rw [force_ords h0 h6 ks hk, force_ords h0 h6 js hj]
 exact canon_ext (h _)
section
variable {a : St} {e : En} {l : List En} {day : Int} (h0 : 0 ≤ e.it.kind) (h6 : e.it.kind ≤ 6)
theorem two_ords (x y : Int) (P : Int → Bool) : (ordsE e day [x, y]).foldl (stepD e) P = stepD e (stepD e P (ordE x e.act e.item day)) (ordE y e.act e.item day) := rfl
theorem one_ord (x : Int) (P : Int → Bool) : (ordsE e day [x]).foldl (stepD e) P = stepD e P (ordE x e.act e.item day) := rfl
include h0 h6
theorem eq88 : forceL a e (l ++ ordsE e day [8, 8]) = forceL a e (l ++ ordsE e day [8]) := same_days h0 h6 _ _ (by simp) (by simp) fun P d d0 d1 => by
 rw [two_ords, one_ord, step8, step8]
 dsimp only
 rw [until_val d day d0]
 cases P d <;> cases decide (d < day) <;> rfl
theorem eq89 : forceL a e (l ++ ordsE e day [8, 9]) = forceL a e (l ++ ordsE e day [9]) := same_days h0 h6 _ _ (by simp) (by simp) fun P d d0 d1 => by
 rw [two_ords, one_ord, step8, step79 e _ 9 day (by omega), step79 e _ 9 day (by omega)]
 dsimp only
 rw [until_val d day d0, since_val d day d1]
 cases P d <;> cases decide (d < day) <;> rfl
theorem eq97 : forceL a e (l ++ ordsE e day [9, 7]) = forceL a e (l ++ ordsE e day [7]) := same_days h0 h6 _ _ (by simp) (by simp) fun P d d0 d1 => by
 rw [two_ords, one_ord, step79 e _ 9 day (by omega), step79 e _ 7 day (by omega), step79 e _ 7 day (by omega)]
 dsimp only
 rw [since_val d day d1]
 cases P d <;> cases decide (d < day) <;> rfl
theorem eq98 : forceL a e (l ++ ordsE e day [9, 8]) = forceL a e (l ++ ordsE e day [8]) := same_days h0 h6 _ _ (by simp) (by simp) fun P d d0 d1 => by
 rw [two_ords, one_ord, step79 e _ 9 day (by omega), step8, step8]
 dsimp only
 rw [until_val d day d0, since_val d day d1]
 cases P d <;> cases decide (d < day) <;> rfl
end
theorem lawRevive (a : St) (e : En) (l : List En) (day : Int) (ha : a.e.size ≤ 9223372036854775807) (h : InE e l) : PC Try.prog env0 9 [stv a, env1 e, .sl 28 (l.map env1), .int .i64 day] [.bool true] := by
 have hA := awake_pc
 have hF := few2_pc e l h
 have hml : (l.map env1).length = l.length := List.length_map _
 have hb := h.1
 rw [env_eq e]
 unfold stv
 cases hfe : fewE (e :: l) with
 | false =>
   rw [hfe] at hF
   refine PC.of_va (T := tb0) eqs_ok tb_ok rfl mixed Try.func9 rfl rfl (Nat.le_of_ble_eq_true rfl) ?_; intro Γ C WK LP fin h0 hW hC hB hR hLP hfin
   (try (conv => whnf)); (repeat ((first | refine qT ?_ | refine qF ?_ | refine qO ?_ | (with_reducible intro z hz); (first | (replace hz := hz (by omega); subst hz) | subst hz) | (refine CallV.mk _ (hC _ _ _ (PCw.of hA)) (fun js hjs => ?_); subst hjs)); (try (conv => whnf))))
   refine Imms.mk ((e :: l).map env1) rfl ?_
   (try (conv => whnf)); (repeat ((first | refine qT ?_ | refine qF ?_ | refine qO ?_ | (with_reducible intro z hz); (first | (replace hz := hz (by omega); subst hz) | subst hz) | (refine CallV.mk _ (hC _ _ _ (PCw.of hF)) (fun js hjs => ?_); subst hjs) | (refine CallV.mk _ (hC _ _ _ (PCw.of hA)) (fun js hjs => ?_); subst hjs)); (try (conv => whnf))))
   exact hfin _ (ILes.refl _)
 | true =>
   have hle := few_le hfe
   rw [hfe] at hF
   by_cases h1 : a.e.size ≤ 100
   rotate_left
   · refine PC.of_va (T := tb0) eqs_ok tb_ok rfl mixed Try.func9 rfl rfl (Nat.le_of_ble_eq_true rfl) ?_; intro Γ C WK LP fin h0 hW hC hB hR hLP hfin
     (try (conv => whnf)); (repeat ((first | refine qT ?_ | refine qF ?_ | refine qO ?_ | (with_reducible intro z hz); (first | (replace hz := hz (by omega); subst hz) | subst hz) | (refine CallV.mk _ (hC _ _ _ (PCw.of hA)) (fun js hjs => ?_); subst hjs)); (try (conv => whnf))))
     refine Imms.mk ((e :: l).map env1) rfl ?_
     (try (conv => whnf)); (repeat ((first | refine qT ?_ | refine qF ?_ | refine qO ?_ | (with_reducible intro z hz); (first | (replace hz := hz (by omega); subst hz) | subst hz) | (refine CallV.mk _ (hC _ _ _ (PCw.of hF)) (fun js hjs => ?_); subst hjs) | (refine CallV.mk _ (hC _ _ _ (PCw.of hA)) (fun js hjs => ?_); subst hjs)); (try (conv => whnf))))
     exact hfin _ (ILes.refl _)
   by_cases k0 : 0 ≤ e.it.kind
   rotate_left
   · refine PC.of_va (T := tb0) eqs_ok tb_ok rfl mixed Try.func9 rfl rfl (Nat.le_of_ble_eq_true rfl) ?_; intro Γ C WK LP fin h0 hW hC hB hR hLP hfin
     (try (conv => whnf)); (repeat ((first | refine qT ?_ | refine qF ?_ | refine qO ?_ | (with_reducible intro z hz); (first | (replace hz := hz (by omega); subst hz) | subst hz) | (refine CallV.mk _ (hC _ _ _ (PCw.of hA)) (fun js hjs => ?_); subst hjs)); (try (conv => whnf))))
     refine Imms.mk ((e :: l).map env1) rfl ?_
     (try (conv => whnf)); (repeat ((first | refine qT ?_ | refine qF ?_ | refine qO ?_ | (with_reducible intro z hz); (first | (replace hz := hz (by omega); subst hz) | subst hz) | (refine CallV.mk _ (hC _ _ _ (PCw.of hF)) (fun js hjs => ?_); subst hjs) | (refine CallV.mk _ (hC _ _ _ (PCw.of hA)) (fun js hjs => ?_); subst hjs)); (try (conv => whnf))))
     exact hfin _ (ILes.refl _)
   by_cases k6 : e.it.kind ≤ 6
   rotate_left
   · refine PC.of_va (T := tb0) eqs_ok tb_ok rfl mixed Try.func9 rfl rfl (Nat.le_of_ble_eq_true rfl) ?_; intro Γ C WK LP fin h0 hW hC hB hR hLP hfin
     (try (conv => whnf)); (repeat ((first | refine qT ?_ | refine qF ?_ | refine qO ?_ | (with_reducible intro z hz); (first | (replace hz := hz (by omega); subst hz) | subst hz) | (refine CallV.mk _ (hC _ _ _ (PCw.of hA)) (fun js hjs => ?_); subst hjs)); (try (conv => whnf))))
     refine Imms.mk ((e :: l).map env1) rfl ?_
     (try (conv => whnf)); (repeat ((first | refine qT ?_ | refine qF ?_ | refine qO ?_ | (with_reducible intro z hz); (first | (replace hz := hz (by omega); subst hz) | subst hz) | (refine CallV.mk _ (hC _ _ _ (PCw.of hF)) (fun js hjs => ?_); subst hjs) | (refine CallV.mk _ (hC _ _ _ (PCw.of hA)) (fun js hjs => ?_); subst hjs)); (try (conv => whnf))))
     exact hfin _ (ILes.refl _)
   have T := fun ks hk => tellR_pcb a e l day ks (by omega) hk
   have hT8 := T [8] (by simp)
   have hT9 := T [9] (by simp)
   have hT7 := T [7] (by simp)
   have hT88 := T [8, 8] (by simp)
   have hT89 := T [8, 9] (by simp)
   have hT97 := T [9, 7] (by simp)
   have hT98 := T [9, 8] (by simp)
   clear T
   rw [eq88 k0 k6] at hT88
   rw [eq89 k0 k6] at hT89
   rw [eq97 k0 k6] at hT97
   rw [eq98 k0 k6] at hT98
   have hL : ∀ k : Int, (forceL a e (l ++ ordsE e day [k])).length ≤ 1000000000 := fun k => by
     have := force_len a e (l ++ ordsE e day [k])
     rw [List.length_append, show (ordsE e day [k]).length = 1 from rfl] at this
     omega
   have hS8 := same_self _ (hL 8)
   have hS9 := same_self _ (hL 9)
   have hS7 := same_self _ (hL 7)
   clear hL
   generalize forceL a e (l ++ ordsE e day [8]) = D8 at *
   generalize forceL a e (l ++ ordsE e day [9]) = D9 at *
   generalize forceL a e (l ++ ordsE e day [7]) = D7 at *
   refine PC.of_va (T := tb0) eqs_ok tb_ok rfl mixed Try.func9 rfl rfl (Nat.le_of_ble_eq_true rfl) ?_; intro Γ C WK LP fin h0 hW hC hB hR hLP hfin
   (try (conv => whnf)); (repeat ((first | refine qT ?_ | refine qF ?_ | refine qO ?_ | (with_reducible intro z hz); (first | (replace hz := hz (by omega); subst hz) | subst hz) | (refine CallV.mk _ (hC _ _ _ (PCw.of hA)) (fun js hjs => ?_); subst hjs)); (try (conv => whnf))))
   refine Imms.mk ((e :: l).map env1) rfl ?_
   (try (conv => whnf)); (repeat ((first | refine qT ?_ | refine qF ?_ | refine qO ?_ | (with_reducible intro z hz); (first | (replace hz := hz (by omega); subst hz) | subst hz) | (refine CallV.mk _ (hC _ _ _ (PCw.of hF)) (fun js hjs => ?_); subst hjs)); (try (conv => whnf))))
   refine Imms.mk [.int .i64 8] rfl ?_
   (try (conv => whnf)); (repeat ((first | refine qT ?_ | refine qF ?_ | refine qO ?_ | (with_reducible intro z hz); (first | (replace hz := hz (by omega); subst hz) | subst hz)); (try (conv => whnf))))
   refine CallB.mk ([.imm (.sl 2 (D8.map spv))]) (capC a e l day) (hB _ _ _ _ _ (hT8)) ?_
   (try (conv => whnf)); (repeat ((first | refine qT ?_ | refine qF ?_ | refine qO ?_ | (with_reducible intro z hz); (first | (replace hz := hz (by omega); subst hz) | subst hz)); (try (conv => whnf))))
   refine Imms.mk [.int .i64 8, .int .i64 8] rfl ?_
   (try (conv => whnf)); (repeat ((first | refine qT ?_ | refine qF ?_ | refine qO ?_ | (with_reducible intro z hz); (first | (replace hz := hz (by omega); subst hz) | subst hz)); (try (conv => whnf))))
   refine CallB.mk ([.imm (.sl 2 (D8.map spv))]) (capC a e l day) (hB _ _ _ _ _ (hT88)) ?_
   (try (conv => whnf)); (repeat ((first | refine qT ?_ | refine qF ?_ | refine qO ?_ | (with_reducible intro z hz); (first | (replace hz := hz (by omega); subst hz) | subst hz) | (refine CallV.mk _ (hC _ _ _ (PCw.of hS8)) (fun js hjs => ?_); subst hjs)); (try (conv => whnf))))
   refine Imms.mk [.int .i64 8, .int .i64 9] rfl ?_
   (try (conv => whnf)); (repeat ((first | refine qT ?_ | refine qF ?_ | refine qO ?_ | (with_reducible intro z hz); (first | (replace hz := hz (by omega); subst hz) | subst hz)); (try (conv => whnf))))
   refine CallB.mk ([.imm (.sl 2 (D9.map spv))]) (capC a e l day) (hB _ _ _ _ _ (hT89)) ?_
   (try (conv => whnf)); (repeat ((first | refine qT ?_ | refine qF ?_ | refine qO ?_ | (with_reducible intro z hz); (first | (replace hz := hz (by omega); subst hz) | subst hz)); (try (conv => whnf))))
   refine Imms.mk [.int .i64 9] rfl ?_
   (try (conv => whnf)); (repeat ((first | refine qT ?_ | refine qF ?_ | refine qO ?_ | (with_reducible intro z hz); (first | (replace hz := hz (by omega); subst hz) | subst hz)); (try (conv => whnf))))
   refine CallB.mk ([.imm (.sl 2 (D9.map spv))]) (capC a e l day) (hB _ _ _ _ _ (hT9)) ?_
   (try (conv => whnf)); (repeat ((first | refine qT ?_ | refine qF ?_ | refine qO ?_ | (with_reducible intro z hz); (first | (replace hz := hz (by omega); subst hz) | subst hz) | (refine CallV.mk _ (hC _ _ _ (PCw.of hS9)) (fun js hjs => ?_); subst hjs)); (try (conv => whnf))))
   refine Imms.mk [.int .i64 7] rfl ?_
   (try (conv => whnf)); (repeat ((first | refine qT ?_ | refine qF ?_ | refine qO ?_ | (with_reducible intro z hz); (first | (replace hz := hz (by omega); subst hz) | subst hz)); (try (conv => whnf))))
   refine CallB.mk ([.imm (.sl 2 (D7.map spv))]) (capC a e l day) (hB _ _ _ _ _ (hT7)) ?_
   (try (conv => whnf)); (repeat ((first | refine qT ?_ | refine qF ?_ | refine qO ?_ | (with_reducible intro z hz); (first | (replace hz := hz (by omega); subst hz) | subst hz)); (try (conv => whnf))))
   refine Imms.mk [.int .i64 9, .int .i64 7] rfl ?_
   (try (conv => whnf)); (repeat ((first | refine qT ?_ | refine qF ?_ | refine qO ?_ | (with_reducible intro z hz); (first | (replace hz := hz (by omega); subst hz) | subst hz)); (try (conv => whnf))))
   refine CallB.mk ([.imm (.sl 2 (D7.map spv))]) (capC a e l day) (hB _ _ _ _ _ (hT97)) ?_
   (try (conv => whnf)); (repeat ((first | refine qT ?_ | refine qF ?_ | refine qO ?_ | (with_reducible intro z hz); (first | (replace hz := hz (by omega); subst hz) | subst hz) | (refine CallV.mk _ (hC _ _ _ (PCw.of hS7)) (fun js hjs => ?_); subst hjs)); (try (conv => whnf))))
   refine Imms.mk [.int .i64 9, .int .i64 8] rfl ?_
   (try (conv => whnf)); (repeat ((first | refine qT ?_ | refine qF ?_ | refine qO ?_ | (with_reducible intro z hz); (first | (replace hz := hz (by omega); subst hz) | subst hz)); (try (conv => whnf))))
   refine CallB.mk ([.imm (.sl 2 (D8.map spv))]) (capC a e l day) (hB _ _ _ _ _ (hT98)) ?_
   (try (conv => whnf)); (repeat ((first | refine qT ?_ | refine qF ?_ | refine qO ?_ | (with_reducible intro z hz); (first | (replace hz := hz (by omega); subst hz) | subst hz) | (refine CallV.mk _ (hC _ _ _ (PCw.of hS8)) (fun js hjs => ?_); subst hjs)); (try (conv => whnf))))
   exact hfin _ (ILes.refl _)
theorem reviveL (a : St) (ha : FitS a) (e : En) (he : FitI e.it) (l : List En) (w : l.length * 392 ≤ 140737488351232 ∧ ∀ x ∈ l, FitI x.it) (day : Int) : PC Try.prog env0 9 [stv a, env1 e, .sl 28 (l.map env1), .int .i64 day] [.bool true] := by
 refine lawRevive a e l day ?_ (.of he w.1 w.2)
 unfold FitS maxLen at ha
 omega
end Go.Proofs.Ytmgjpmjmondplaa.Pe
