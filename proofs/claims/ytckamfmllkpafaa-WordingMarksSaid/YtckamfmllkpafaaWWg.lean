/-
  Which words are meant, in a row that may be written; InsertAfter.
-/
import Derived.Test.YtckamfmllkpafaaWWf
namespace Go.Proofs.Ytckamfmllkpafaa.Pw
open Go Go.Pv Go.RowKit Go.Proofs.Ytckamfmllkpafaa.Pu Go.Proofs.Ytckamfmllkpafaa.Pb
set_option linter.unusedSimpArgs false
open Lab Lcs Go.Proofs.Ytckamfmllkpafaa
set_option maxRecDepth 10000
set_option maxHeartbeats 16000000
theorem findAll4_pcr (l p : List Str) (hl : l.length ≤ 100000) (hpl : p.length ≤ 100000) : PCR Try.prog env0 45 [.sl 1 (l.map IV.str), .sl 1 (p.map IV.str)] 3 1 (zs (occs l p)) := by
 have h1 : (l.map IV.str).length = l.length := List.length_map _
 have h2 : (p.map IV.str).length = p.length := List.length_map _
 by_cases hp : p.length = 0
 · unfold occs
   rw [if_pos hp, show zs [] = [] from rfl]
   refine PCR.of_va (T := tb0) eqs_ok tb_ok rfl mixed Try.func45 rfl rfl (Nat.le_of_ble_eq_true rfl) rfl ?_; intro Γ C WK LP fin h0 hW hC hB hR hLP hfin
   (try (conv => whnf)); (repeat ((first | refine qT ?_ | refine qF ?_ | refine qO ?_ | (with_reducible intro z hz); (first | (replace hz := hz (by omega); subst hz) | subst hz)); (try (conv => whnf))))
   exact hfin _ _ _ _ ((WeakA.nilSlot 0 3 1 (Nat.le_of_ble_eq_true rfl) rfl)) rfl
 have hp0 : 0 < p.length := by omega
 rw [occs_F hp0]
 refine PCR.of_va (T := tb0) eqs_ok tb_ok rfl mixed Try.func45 rfl rfl (Nat.le_of_ble_eq_true rfl) rfl ?_; intro Γ C WK LP fin h0 hW hC hB hR hLP hfin
 (try (conv => whnf)); (repeat ((first | refine qT ?_ | refine qF ?_ | refine qO ?_ | (with_reducible intro z hz); (first | (replace hz := hz (by omega); subst hz) | subst hz)); (try (conv => whnf))))
 refine hLP _ _ _ (Nat × List Nat) (fun q => ⟨[(0, .imm (.sl 1 (l.map IV.str))), (1, .imm (.sl 1 (p.map IV.str))), (5, .row 0 1), (6, .imm (.int .i64 (q.1 : Nat)))], [.row 3 1 1 ((zs q.2).map .imm)]⟩) (fun q => q.2.length ≤ q.1 ∧ q.1 ≤ l.length + p.length ∧ occF l p 0 = q.2 ++ occF l p q.1) (fun q => l.length + p.length + 1 - q.1) (0, []) ⟨Nat.zero_le _, Nat.zero_le _, rfl⟩ ((WeakA.nilSlot 5 3 1 (Nat.le_of_ble_eq_true rfl) rfl).trans (((WeakA.row 0 ((zs []).map .imm) rfl (by simp [zs]))).trans (qSL 1 rfl rfl))) ?_
 rintro ⟨i, L⟩ ⟨hi, hil, hinv⟩
 dsimp only at hi hil hinv ⊢
 by_cases hlt : i + p.length ≤ l.length
 · have hE := equal_pc ((l.drop i).take p.length) p (by rw [List.length_take]; omega) (by omega)
   have hzl : ((zs L).map PV.imm).length = L.length := by rw [List.length_map, zs_len]
   have hzl2 : (zs L).length = L.length := zs_len L
   have hsub : List.take ((((i : Nat) : Int) + (((p.map IV.str).length : Nat) : Int)).toNat - ((i : Nat) : Int).toNat) (List.drop ((i : Nat) : Int).toNat (l.map IV.str)) = ((l.drop i).take p.length).map IV.str := by
     rw [h2, show (((i : Nat) : Int) + ((p.length : Nat) : Int)).toNat - ((i : Nat) : Int).toNat = p.length by omega, Int.toNat_natCast, List.map_take, List.map_drop]
   rw [← hsub] at hE
   by_cases ha : atB l p i = true
   · rw [show decide ((l.drop i).take p.length = p) = true from ha] at hE
     (try (conv => whnf)); (repeat ((first | refine qT ?_ | refine qF ?_ | refine qO ?_ | (with_reducible intro z hz); (first | (replace hz := hz (by omega); subst hz) | subst hz) | (refine CallV.mk _ (hC _ _ _ (PCw.of hE)) (fun js hjs => ?_); subst hjs)); (try (conv => whnf))))
     exact ⟨(i + p.length, L ++ [i]), ⟨by simp only [List.length_append, List.length_singleton]; omega, by dsimp only; omega, by rw [hinv, occF_hit hp0 hlt ha]; simp⟩, by dsimp only; omega, ((WeakA.row 0 ((zs (L ++ [i])).map .imm) rfl (by rw [zs_app]; simp [zs, zi]))).trans ((WeakA.renew 0 1 rfl (by first | omega | (intro _; rw [hk0 _ _ rfl]; exact Nat.le_of_ble_eq_true rfl)) (by repeat (first | exact trivial | refine And.intro (rgL_imms _ _ _ _) ?_ | refine And.intro rfl ?_))).trans (qSL 1 rfl rfl))⟩
   · rw [show decide ((l.drop i).take p.length = p) = false by unfold atB at ha; simpa using ha] at hE
     (try (conv => whnf)); (repeat ((first | refine qT ?_ | refine qF ?_ | refine qO ?_ | (with_reducible intro z hz); (first | (replace hz := hz (by omega); subst hz) | subst hz) | (refine CallV.mk _ (hC _ _ _ (PCw.of hE)) (fun js hjs => ?_); subst hjs)); (try (conv => whnf))))
     exact ⟨(i + 1, L), ⟨by dsimp only; omega, by dsimp only; omega, by rw [hinv, occF_miss hp0 hlt ha]⟩, by dsimp only; omega, (qSL 1 rfl rfl)⟩
 · rw [occF_end hlt, List.append_nil] at hinv
   (try (conv => whnf)); (repeat ((first | refine qT ?_ | refine qF ?_ | refine qO ?_ | (with_reducible intro z hz); (first | (replace hz := hz (by omega); subst hz) | subst hz)); (try (conv => whnf))))
   exact hfin _ _ _ _ ((WeakA.row 0 ((zs (occF l p 0)).map .imm) rfl (by rw [hinv]))) rfl
theorem PCB.sub {P : Program} {X : Env} {f : FuncId} {args : List PV} {B B' : List Blk} {r g sz : Nat} {e : TypeId} {es : List PV} (h : PCB P X f args B [.row r g] B') (hb : B'[r]? = some (.row e sz g es)) : PCB P X f args B [.sub r g sz 0 es.length] B' := by
 refine ⟨h.1, h.2.1, fun Γ k w vs hX hI hT => (h.2.2 Γ k w vs hX hI hT).mono ?_⟩
 rintro e w' ⟨v, k', he, h1, h2, h3⟩
 have hl := h.2.1
 refine ⟨v, k', he, h1, h2, ?_⟩
 rw [← hl] at h3 ⊢
 exact row_as_sub h2 hb h3
def frW (r : Nat) : List Nat := match r with
 | 13 => [0]
 | _ => []
def nwW (f : FuncId) : Nat := bif Nat.beq f 38 then 2 else 0
def tbw (fr : Nat → List Nat) (hk : Nat → Bool) : Tb := ⟨Pv.look tdl, eqs, fun _ => none, fr, hk, nwW⟩
theorem tbw_ok {fr : Nat → List Nat} {hk : Nat → Bool} : ∀ t d, (tbw fr hk).td t = some d → tdOf Try.prog t = some d := Pv.look_ok tdl_ok
theorem occurR_pcb (w : List Wd) (p : List Str) (nth : Int) (hw : w.length ≤ 100000) (hp : p.length ≤ 100000) (h0 : nth = 0) : PCB Try.prog env0 38 [.imm (.sl 4 (w.map wdv)), .imm (.sl 1 (p.map IV.str)), .imm (.int .i64 nth)] [.dead 1] [.row 0 2] [.row 3 1 2 ((zs (occs (txts w) p)).map .imm)] := by
 have hS := strings_pc w (by omega)
 have hF := findAll4_pcr (txts w) p (by rw [txts_len]; omega) hp
 generalize occs (txts w) p = O at hF ⊢
 refine PCB.of_va (T := tb0) eqs_ok tb_ok rfl mixed Try.func38 rfl rfl rfl (Nat.le_of_ble_eq_true rfl) rfl ?_; intro Γ C WK LP fin h0 hk0 hW hC hB hR hLP hfin
 (try (conv => whnf)); (repeat ((first | refine qT ?_ | refine qF ?_ | refine qO ?_ | (with_reducible intro z hz); (first | (replace hz := hz (by omega); subst hz) | subst hz) | (refine CallV.mk _ (hC _ _ _ (PCw.of hS)) (fun js hjs => ?_); subst hjs)); (try (conv => whnf))))
 refine CallV.row _ _ _ (hR _ _ _ _ _ (PCRw.of (hF))) (fun js hjs => ?_); subst hjs
 (try (conv => whnf)); (repeat ((first | refine qT ?_ | refine qF ?_ | refine qO ?_ | (with_reducible intro z hz); (first | (replace hz := hz (by omega); subst hz) | subst hz)); (try (conv => whnf))))
 exact hfin _ (WeakA.trans (WeakA.adopt 0 2 2 (by decide) rfl rfl (by rw [h0]; exact Nat.le_of_ble_eq_true rfl) (by first | omega | (intro _; rw [hk0 _ _ rfl]; exact Nat.le_of_ble_eq_true rfl)) (by repeat (first | exact trivial | refine And.intro (mvL_imms _ _ _ _ _) ?_ | refine And.intro rfl ?_))) (qSL 1 rfl rfl))
theorem occurS_pcb (w : List Wd) (p : List Str) (nth : Int) (hw : w.length ≤ 100000) (hp : p.length ≤ 100000) (h0 : 1 ≤ nth) (h1 : nth ≤ ((occs (txts w) p).length : Int)) : PCB Try.prog env0 38 [.imm (.sl 4 (w.map wdv)), .imm (.sl 1 (p.map IV.str)), .imm (.int .i64 nth)] [.dead 1] [.sub 0 2 1 (nth.toNat - 1) 1] [.row 3 1 2 ((zs (occs (txts w) p)).map .imm)] := by
 have hS := strings_pc w (by omega)
 have hF := findAll4_pcr (txts w) p (by rw [txts_len]; omega) hp
 have hol := occs_len (txts w) p
 rw [txts_len] at hol
 generalize occs (txts w) p = O at hF h1 hol ⊢
 have hzl : (zs O).length = O.length := zs_len O
 have hzl2 : ((zs O).map PV.imm).length = O.length := by rw [List.length_map, hzl]
 have e1 : (nth - 1).toNat = nth.toNat - 1 := by omega
 have e2 : nth.toNat - (nth - 1).toNat = 1 := by omega
 refine PCB.of_va (T := tb0) eqs_ok tb_ok rfl mixed Try.func38 rfl rfl rfl (Nat.le_of_ble_eq_true rfl) rfl ?_; intro Γ C WK LP fin h0 hk0 hW hC hB hR hLP hfin
 (try (conv => whnf)); (repeat ((first | refine qT ?_ | refine qF ?_ | refine qO ?_ | (with_reducible intro z hz); (first | (replace hz := hz (by omega); subst hz) | subst hz) | (refine CallV.mk _ (hC _ _ _ (PCw.of hS)) (fun js hjs => ?_); subst hjs)); (try (conv => whnf))))
 refine CallV.row _ _ _ (hR _ _ _ _ _ (PCRw.of (hF))) (fun js hjs => ?_); subst hjs
 (try (conv => whnf)); (repeat ((first | refine qT ?_ | refine qF ?_ | refine qO ?_ | (with_reducible intro z hz); (first | (replace hz := hz (by omega); subst hz) | subst hz)); (try (conv => whnf))))
 rw [e2, e1]
 exact hfin _ (WeakA.trans (WeakA.adopt 0 2 2 (by decide) rfl rfl (by rw [h0]; exact Nat.le_of_ble_eq_true rfl) (by first | omega | (intro _; rw [hk0 _ _ rfl]; exact Nat.le_of_ble_eq_true rfl)) (by repeat (first | exact trivial | refine And.intro (mvL_imms _ _ _ _ _) ?_ | refine And.intro rfl ?_))) (qSL 1 rfl rfl))
theorem occurN_pcb (w : List Wd) (p : List Str) (nth : Int) (hw : w.length ≤ 100000) (hp : p.length ≤ 100000) (h0 : 1 ≤ nth) (h1 : ¬ nth ≤ ((occs (txts w) p).length : Int)) : PCB Try.prog env0 38 [.imm (.sl 4 (w.map wdv)), .imm (.sl 1 (p.map IV.str)), .imm (.int .i64 nth)] [.dead 1] [.imm .nil] [.dead 1] := by
 have hS := strings_pc w (by omega)
 have hF := findAll4_pcr (txts w) p (by rw [txts_len]; omega) hp
 have hol := occs_len (txts w) p
 rw [txts_len] at hol
 generalize occs (txts w) p = O at hF h1 hol ⊢
 have hzl : (zs O).length = O.length := zs_len O
 have hzl2 : ((zs O).map PV.imm).length = O.length := by rw [List.length_map, hzl]
 refine PCB.of_va (T := tb0) eqs_ok tb_ok rfl mixed Try.func38 rfl rfl rfl (Nat.le_of_ble_eq_true rfl) rfl ?_; intro Γ C WK LP fin h0 hk0 hW hC hB hR hLP hfin
 (try (conv => whnf)); (repeat ((first | refine qT ?_ | refine qF ?_ | refine qO ?_ | (with_reducible intro z hz); (first | (replace hz := hz (by omega); subst hz) | subst hz) | (refine CallV.mk _ (hC _ _ _ (PCw.of hS)) (fun js hjs => ?_); subst hjs)); (try (conv => whnf))))
 refine CallV.row _ _ _ (hR _ _ _ _ _ (PCRw.of (hF))) (fun js hjs => ?_); subst hjs
 (try (conv => whnf)); (repeat ((first | refine qT ?_ | refine qF ?_ | refine qO ?_ | (with_reducible intro z hz); (first | (replace hz := hz (by omega); subst hz) | subst hz)); (try (conv => whnf))))
 exact hfin _ (qSL 1 rfl rfl)
end Go.Proofs.Ytckamfmllkpafaa.Pw
