/-
  The reference's Few, for instructions.
-/
import Derived.Test.YtglkpmhamekpmaaGreatWCv
namespace Go.Proofs.YtglkpmhamekpmaaGreat.Po
open Go Go.Pv Go.RowKit
set_option linter.unusedSimpArgs false
open Lab Lcs Go.Proofs.YtglkpmhamekpmaaGreat Go.Proofs.YtglkpmhamekpmaaGreat.Pu
set_option maxRecDepth 10000
set_option maxHeartbeats 32000000
def l100 (s : Stp) : Bool := decide (s.label.size ≤ 100)
def headB (x : It) : Bool := decide (x.p.length ≤ 12 ∧ x.q.length ≤ 12 ∧ x.old.length ≤ 300 ∧ x.new.length ≤ 300 ∧ x.lb.size ≤ 100 ∧ x.fr.size ≤ 100 ∧ x.se.size ≤ 100 ∧ x.ev.size ≤ 100 ∧ x.bys.length ≤ 2) && fewU x.unit 30
def flatB (x : It) : Bool := match x.bys with
 | [] => true
 | y :: _ => y.bys.isEmpty
mutual
def fewI : It → Bool
 | .mk kind p q z nth unit old new lb fr sk sd se a i d ev bys => headB (.mk kind p q z nth unit old new lb fr sk sd se a i d ev bys) && (old.all s100 && (new.all s100 && (p.all l100 && (q.all l100 && fewIs bys))))
def fewIs : List It → Bool
 | [] => true
 | x :: r => flatB x && fewI x && fewIs r
end
theorem fewI_eq (x : It) : fewI x = (headB x && (x.old.all s100 && (x.new.all s100 && (x.p.all l100 && (x.q.all l100 && fewIs x.bys))))) := by cases x; rw [fewI]; rfl
theorem fewIs_app : ∀ a b : List It, fewIs (a ++ b) = (fewIs a && fewIs b)
 | [], b => by simp [fewIs]
 | x :: a, b => by simp [fewIs, fewIs_app a b, Bool.and_assoc]
theorem fewIs_no {l : List It} {k : Nat} {x : It} (hx : l[k]? = some x) (h : (flatB x && fewI x) = false) : fewIs l = false := by
 obtain ⟨hk, he⟩ := List.getElem?_eq_some_iff.1 hx
 have : l = l.take k ++ x :: l.drop (k + 1) := by rw [← he, ← List.drop_eq_getElem_cons hk, List.take_append_drop]
 rw [this, fewIs_app, fewIs, h]
 simp
inductive FitT : It → Prop
 | mk (x : It) (hu : Fits x.unit) (h1 : x.p.length ≤ maxLen ∧ x.q.length ≤ maxLen ∧ x.old.length ≤ maxLen ∧ x.new.length ≤ maxLen ∧ x.bys.length ≤ maxLen) (hb : ∀ y ∈ x.bys, FitT y) : FitT x
theorem few17_pc (x : It) (hx0 : FitT x) : PC Tryz.prog env0 40 [itv x] [.bool (fewI x)] := by
 induction hx0 with
 | mk x hu h1 hb ih =>
 obtain ⟨hp, hq, ho, hn, hbl⟩ := h1
 unfold maxLen at hp hq ho hn hbl
 have hFw := few6_pc x.unit 30 hu (by omega) (by omega)
 rw [uv_eq x.unit] at hFw
 have hpm : (x.p.map spv).length = x.p.length := List.length_map _
 have hqm : (x.q.map spv).length = x.q.length := List.length_map _
 have hom : (x.old.map IV.str).length = x.old.length := List.length_map _
 have hnm : (x.new.map IV.str).length = x.new.length := List.length_map _
 have hbm : (x.bys.map itv).length = x.bys.length := List.length_map _
 have hfe := fewI_eq x
 rw [itv_eq x]
 by_cases c0 : x.p.length ≤ 12
 case neg =>
   have hf : fewI x = false := by rw [hfe, show headB x = false by unfold headB; rw [decide_eq_false (by intro h; exact c0 (by omega))]; rfl]; rfl
   rw [hf]
   clear hFw
   refine PC.of_va (T := tb0) eqs_ok tb_ok rfl mixed Tryz.func40 rfl rfl (Nat.le_of_ble_eq_true rfl) ?_; intro Γ C WK LP fin h0 hW hC hB hR hLP hfin
   (try (conv => whnf)); (repeat ((first | refine qT ?_ | refine qF ?_ | refine qO ?_ | (with_reducible intro z hz); (first | (replace hz := hz (by omega); subst hz) | subst hz)); (try (conv => whnf))))
   exact hfin _ (ILes.refl _)
 by_cases c1 : x.q.length ≤ 12
 case neg =>
   have hf : fewI x = false := by rw [hfe, show headB x = false by unfold headB; rw [decide_eq_false (by intro h; exact c1 (by omega))]; rfl]; rfl
   rw [hf]
   clear hFw
   refine PC.of_va (T := tb0) eqs_ok tb_ok rfl mixed Tryz.func40 rfl rfl (Nat.le_of_ble_eq_true rfl) ?_; intro Γ C WK LP fin h0 hW hC hB hR hLP hfin
   (try (conv => whnf)); (repeat ((first | refine qT ?_ | refine qF ?_ | refine qO ?_ | (with_reducible intro z hz); (first | (replace hz := hz (by omega); subst hz) | subst hz)); (try (conv => whnf))))
   exact hfin _ (ILes.refl _)
 by_cases c2 : x.old.length ≤ 300
 case neg =>
   have hf : fewI x = false := by rw [hfe, show headB x = false by unfold headB; rw [decide_eq_false (by intro h; exact c2 (by omega))]; rfl]; rfl
   rw [hf]
   clear hFw
   refine PC.of_va (T := tb0) eqs_ok tb_ok rfl mixed Tryz.func40 rfl rfl (Nat.le_of_ble_eq_true rfl) ?_; intro Γ C WK LP fin h0 hW hC hB hR hLP hfin
   (try (conv => whnf)); (repeat ((first | refine qT ?_ | refine qF ?_ | refine qO ?_ | (with_reducible intro z hz); (first | (replace hz := hz (by omega); subst hz) | subst hz)); (try (conv => whnf))))
   exact hfin _ (ILes.refl _)
 by_cases c3 : x.new.length ≤ 300
 case neg =>
   have hf : fewI x = false := by rw [hfe, show headB x = false by unfold headB; rw [decide_eq_false (by intro h; exact c3 (by omega))]; rfl]; rfl
   rw [hf]
   clear hFw
   refine PC.of_va (T := tb0) eqs_ok tb_ok rfl mixed Tryz.func40 rfl rfl (Nat.le_of_ble_eq_true rfl) ?_; intro Γ C WK LP fin h0 hW hC hB hR hLP hfin
   (try (conv => whnf)); (repeat ((first | refine qT ?_ | refine qF ?_ | refine qO ?_ | (with_reducible intro z hz); (first | (replace hz := hz (by omega); subst hz) | subst hz)); (try (conv => whnf))))
   exact hfin _ (ILes.refl _)
 by_cases c4 : x.lb.size ≤ 100
 case neg =>
   have hf : fewI x = false := by rw [hfe, show headB x = false by unfold headB; rw [decide_eq_false (by intro h; exact c4 (by omega))]; rfl]; rfl
   rw [hf]
   clear hFw
   refine PC.of_va (T := tb0) eqs_ok tb_ok rfl mixed Tryz.func40 rfl rfl (Nat.le_of_ble_eq_true rfl) ?_; intro Γ C WK LP fin h0 hW hC hB hR hLP hfin
   (try (conv => whnf)); (repeat ((first | refine qT ?_ | refine qF ?_ | refine qO ?_ | (with_reducible intro z hz); (first | (replace hz := hz (by omega); subst hz) | subst hz)); (try (conv => whnf))))
   exact hfin _ (ILes.refl _)
 by_cases c5 : x.fr.size ≤ 100
 case neg =>
   have hf : fewI x = false := by rw [hfe, show headB x = false by unfold headB; rw [decide_eq_false (by intro h; exact c5 (by omega))]; rfl]; rfl
   rw [hf]
   clear hFw
   refine PC.of_va (T := tb0) eqs_ok tb_ok rfl mixed Tryz.func40 rfl rfl (Nat.le_of_ble_eq_true rfl) ?_; intro Γ C WK LP fin h0 hW hC hB hR hLP hfin
   (try (conv => whnf)); (repeat ((first | refine qT ?_ | refine qF ?_ | refine qO ?_ | (with_reducible intro z hz); (first | (replace hz := hz (by omega); subst hz) | subst hz)); (try (conv => whnf))))
   exact hfin _ (ILes.refl _)
 by_cases c6 : x.se.size ≤ 100
 case neg =>
   have hf : fewI x = false := by rw [hfe, show headB x = false by unfold headB; rw [decide_eq_false (by intro h; exact c6 (by omega))]; rfl]; rfl
   rw [hf]
   clear hFw
   refine PC.of_va (T := tb0) eqs_ok tb_ok rfl mixed Tryz.func40 rfl rfl (Nat.le_of_ble_eq_true rfl) ?_; intro Γ C WK LP fin h0 hW hC hB hR hLP hfin
   (try (conv => whnf)); (repeat ((first | refine qT ?_ | refine qF ?_ | refine qO ?_ | (with_reducible intro z hz); (first | (replace hz := hz (by omega); subst hz) | subst hz)); (try (conv => whnf))))
   exact hfin _ (ILes.refl _)
 by_cases c7 : x.ev.size ≤ 100
 case neg =>
   have hf : fewI x = false := by rw [hfe, show headB x = false by unfold headB; rw [decide_eq_false (by intro h; exact c7 (by omega))]; rfl]; rfl
   rw [hf]
   clear hFw
   refine PC.of_va (T := tb0) eqs_ok tb_ok rfl mixed Tryz.func40 rfl rfl (Nat.le_of_ble_eq_true rfl) ?_; intro Γ C WK LP fin h0 hW hC hB hR hLP hfin
   (try (conv => whnf)); (repeat ((first | refine qT ?_ | refine qF ?_ | refine qO ?_ | (with_reducible intro z hz); (first | (replace hz := hz (by omega); subst hz) | subst hz)); (try (conv => whnf))))
   exact hfin _ (ILes.refl _)
 by_cases c8 : x.bys.length ≤ 2
 case neg =>
   have hf : fewI x = false := by rw [hfe, show headB x = false by unfold headB; rw [decide_eq_false (by intro h; exact c8 (by omega))]; rfl]; rfl
   rw [hf]
   clear hFw
   refine PC.of_va (T := tb0) eqs_ok tb_ok rfl mixed Tryz.func40 rfl rfl (Nat.le_of_ble_eq_true rfl) ?_; intro Γ C WK LP fin h0 hW hC hB hR hLP hfin
   (try (conv => whnf)); (repeat ((first | refine qT ?_ | refine qF ?_ | refine qO ?_ | (with_reducible intro z hz); (first | (replace hz := hz (by omega); subst hz) | subst hz)); (try (conv => whnf))))
   exact hfin _ (ILes.refl _)
 cases hwb : fewU x.unit 30
 case false =>
   have hf : fewI x = false := by rw [hfe, show headB x = false by unfold headB; rw [hwb, Bool.and_false]]; rfl
   rw [hf]
   rw [hwb] at hFw
   refine PC.of_va (T := tb0) eqs_ok tb_ok rfl mixed Tryz.func40 rfl rfl (Nat.le_of_ble_eq_true rfl) ?_; intro Γ C WK LP fin h0 hW hC hB hR hLP hfin
   (try (conv => whnf)); (repeat ((first | refine qT ?_ | refine qF ?_ | refine qO ?_ | (with_reducible intro z hz); (first | (replace hz := hz (by omega); subst hz) | subst hz) | (refine CallV.mk _ (hC _ _ _ (PCw.of hFw)) (fun js hjs => ?_); subst hjs)); (try (conv => whnf))))
   exact hfin _ (ILes.refl _)
 rw [hwb] at hFw
 have hhd : headB x = true := by unfold headB; rw [hwb, Bool.and_true, decide_eq_true]; exact ⟨c0, c1, c2, c3, c4, c5, c6, c7, c8⟩
 rw [hhd, Bool.true_and] at hfe
 refine PC.of_va (T := tb0) eqs_ok tb_ok rfl mixed Tryz.func40 rfl rfl (Nat.le_of_ble_eq_true rfl) ?_; intro Γ C WK LP fin h0 hW hC hB hR hLP hfin
 (try (conv => whnf)); (repeat ((first | refine qT ?_ | refine qF ?_ | refine qO ?_ | (with_reducible intro z hz); (first | (replace hz := hz (by omega); subst hz) | subst hz) | (refine CallV.mk _ (hC _ _ _ (PCw.of hFw)) (fun js hjs => ?_); subst hjs)); (try (conv => whnf))))
 refine hLP _ _ _ Nat (fun k => ⟨[(1, .ptr 0 1 0), (3, .imm (.int .i64 (k : Nat)))], [.box 1 [.imm (.int .i64 x.kind), .imm (.sl 2 (x.p.map spv)), .imm (.sl 2 (x.q.map spv)), .imm (.int .i64 x.z), .imm (.int .i64 x.nth), .imm (.int .i64 x.unit.id.x), .imm (.int .i64 x.unit.id.y), .imm (.int .i64 x.unit.id.z), .imm (.int .i64 x.unit.kind), .imm (.str x.unit.label), .imm (.sl 4 (x.unit.head.map wdv)), .imm (.sl 4 (x.unit.words.map wdv)), .imm (.sl 8 (x.unit.kids.map uv)), .imm (.sl 1 (x.old.map IV.str)), .imm (.sl 1 (x.new.map IV.str)), .imm (.str x.lb), .imm (.str x.fr), .imm (.int .i64 x.sk), .imm (.int .i64 x.sd), .imm (.str x.se), .imm (.int .i64 x.a), .imm (.int .i64 x.i), .imm (.int .i64 x.d), .imm (.str x.ev), .imm (.sl 25 (x.bys.map itv))]]⟩) (fun k => k ≤ x.old.length ∧ (x.old.take k).all s100 = true) (fun k => x.old.length - k) 0 ⟨Nat.zero_le _, rfl⟩ (qSL 1 rfl rfl) ?_
 rintro k ⟨hk, hpre⟩
 have hho := Nat.lt_or_ge k x.old.length
 cases hho with
 | inl hlt =>
   obtain ⟨y, hy⟩ : ∃ y, x.old[k]? = some y := ⟨x.old[k], List.getElem?_eq_getElem hlt⟩
   by_cases hs : y.size ≤ 100
   · (try (conv => whnf)); (repeat ((first | refine qT ?_ | refine qF ?_ | refine qO ?_ | (with_reducible intro z hz); (first | (replace hz := hz (by omega); subst hz) | subst hz)); (try (conv => whnf))))
     refine Idx.mk k (IV.str y) _ rfl (by simp [hy]) rfl ?_
     (try (conv => whnf)); (repeat ((first | refine qT ?_ | refine qF ?_ | refine qO ?_ | (with_reducible intro z hz); (first | (replace hz := hz (by omega); subst hz) | subst hz)); (try (conv => whnf))))
     exact ⟨k + 1, ⟨by omega, all_take hy hpre (by unfold s100; exact decide_eq_true hs)⟩, by dsimp only; omega, (qSL 1 rfl rfl)⟩
   · have hno : x.old.all s100 = false := all_no hy (by unfold s100; exact decide_eq_false hs)
     have hf : fewI x = false := by rw [hfe, hno, Bool.false_and]
     rw [hf] at hfin
     (try (conv => whnf)); (repeat ((first | refine qT ?_ | refine qF ?_ | refine qO ?_ | (with_reducible intro z hz); (first | (replace hz := hz (by omega); subst hz) | subst hz)); (try (conv => whnf))))
     refine Idx.mk k (IV.str y) _ rfl (by simp [hy]) rfl ?_
     (try (conv => whnf)); (repeat ((first | refine qT ?_ | refine qF ?_ | refine qO ?_ | (with_reducible intro z hz); (first | (replace hz := hz (by omega); subst hz) | subst hz)); (try (conv => whnf))))
     exact hfin _ (ILes.refl _)
 | inr hge =>
   obtain rfl : k = x.old.length := by omega
   rw [List.take_length] at hpre
   rw [hpre, Bool.true_and] at hfe
   clear hpre hge hk
   (try (conv => whnf)); (repeat ((first | refine qT ?_ | refine qF ?_ | refine qO ?_ | (with_reducible intro z hz); (first | (replace hz := hz (by omega); subst hz) | subst hz)); (try (conv => whnf))))
   refine hLP _ _ _ Nat (fun k => ⟨[(1, .ptr 0 1 0), (4, .imm (.int .i64 (k : Nat)))], [.box 1 [.imm (.int .i64 x.kind), .imm (.sl 2 (x.p.map spv)), .imm (.sl 2 (x.q.map spv)), .imm (.int .i64 x.z), .imm (.int .i64 x.nth), .imm (.int .i64 x.unit.id.x), .imm (.int .i64 x.unit.id.y), .imm (.int .i64 x.unit.id.z), .imm (.int .i64 x.unit.kind), .imm (.str x.unit.label), .imm (.sl 4 (x.unit.head.map wdv)), .imm (.sl 4 (x.unit.words.map wdv)), .imm (.sl 8 (x.unit.kids.map uv)), .imm (.sl 1 (x.old.map IV.str)), .imm (.sl 1 (x.new.map IV.str)), .imm (.str x.lb), .imm (.str x.fr), .imm (.int .i64 x.sk), .imm (.int .i64 x.sd), .imm (.str x.se), .imm (.int .i64 x.a), .imm (.int .i64 x.i), .imm (.int .i64 x.d), .imm (.str x.ev), .imm (.sl 25 (x.bys.map itv))]]⟩) (fun k => k ≤ x.new.length ∧ (x.new.take k).all s100 = true) (fun k => x.new.length - k) 0 ⟨Nat.zero_le _, rfl⟩ (qSL 1 rfl rfl) ?_
   rintro k ⟨hk, hpre⟩
   have hho := Nat.lt_or_ge k x.new.length
   cases hho with
   | inl hlt =>
     obtain ⟨y, hy⟩ : ∃ y, x.new[k]? = some y := ⟨x.new[k], List.getElem?_eq_getElem hlt⟩
     by_cases hs : y.size ≤ 100
     · (try (conv => whnf)); (repeat ((first | refine qT ?_ | refine qF ?_ | refine qO ?_ | (with_reducible intro z hz); (first | (replace hz := hz (by omega); subst hz) | subst hz)); (try (conv => whnf))))
       refine Idx.mk k (IV.str y) _ rfl (by simp [hy]) rfl ?_
       (try (conv => whnf)); (repeat ((first | refine qT ?_ | refine qF ?_ | refine qO ?_ | (with_reducible intro z hz); (first | (replace hz := hz (by omega); subst hz) | subst hz)); (try (conv => whnf))))
       exact ⟨k + 1, ⟨by omega, all_take hy hpre (by unfold s100; exact decide_eq_true hs)⟩, by dsimp only; omega, (qSL 1 rfl rfl)⟩
     · have hno : x.new.all s100 = false := all_no hy (by unfold s100; exact decide_eq_false hs)
       have hf : fewI x = false := by rw [hfe, hno, Bool.false_and]
       rw [hf] at hfin
       (try (conv => whnf)); (repeat ((first | refine qT ?_ | refine qF ?_ | refine qO ?_ | (with_reducible intro z hz); (first | (replace hz := hz (by omega); subst hz) | subst hz)); (try (conv => whnf))))
       refine Idx.mk k (IV.str y) _ rfl (by simp [hy]) rfl ?_
       (try (conv => whnf)); (repeat ((first | refine qT ?_ | refine qF ?_ | refine qO ?_ | (with_reducible intro z hz); (first | (replace hz := hz (by omega); subst hz) | subst hz)); (try (conv => whnf))))
       exact hfin _ (ILes.refl _)
   | inr hge =>
     obtain rfl : k = x.new.length := by omega
     rw [List.take_length] at hpre
     rw [hpre, Bool.true_and] at hfe
     clear hpre hge hk
     (try (conv => whnf)); (repeat ((first | refine qT ?_ | refine qF ?_ | refine qO ?_ | (with_reducible intro z hz); (first | (replace hz := hz (by omega); subst hz) | subst hz)); (try (conv => whnf))))
     refine hLP _ _ _ Nat (fun k => ⟨[(1, .ptr 0 1 0), (5, .imm (.int .i64 (k : Nat)))], [.box 1 [.imm (.int .i64 x.kind), .imm (.sl 2 (x.p.map spv)), .imm (.sl 2 (x.q.map spv)), .imm (.int .i64 x.z), .imm (.int .i64 x.nth), .imm (.int .i64 x.unit.id.x), .imm (.int .i64 x.unit.id.y), .imm (.int .i64 x.unit.id.z), .imm (.int .i64 x.unit.kind), .imm (.str x.unit.label), .imm (.sl 4 (x.unit.head.map wdv)), .imm (.sl 4 (x.unit.words.map wdv)), .imm (.sl 8 (x.unit.kids.map uv)), .imm (.sl 1 (x.old.map IV.str)), .imm (.sl 1 (x.new.map IV.str)), .imm (.str x.lb), .imm (.str x.fr), .imm (.int .i64 x.sk), .imm (.int .i64 x.sd), .imm (.str x.se), .imm (.int .i64 x.a), .imm (.int .i64 x.i), .imm (.int .i64 x.d), .imm (.str x.ev), .imm (.sl 25 (x.bys.map itv))]]⟩) (fun k => k ≤ x.p.length ∧ (x.p.take k).all l100 = true) (fun k => x.p.length - k) 0 ⟨Nat.zero_le _, rfl⟩ (qSL 1 rfl rfl) ?_
     rintro k ⟨hk, hpre⟩
     have hho := Nat.lt_or_ge k x.p.length
     cases hho with
     | inl hlt =>
       obtain ⟨y, hy⟩ : ∃ y, x.p[k]? = some y := ⟨x.p[k], List.getElem?_eq_getElem hlt⟩
       by_cases hs : y.label.size ≤ 100
       · (try (conv => whnf)); (repeat ((first | refine qT ?_ | refine qF ?_ | refine qO ?_ | (with_reducible intro z hz); (first | (replace hz := hz (by omega); subst hz) | subst hz)); (try (conv => whnf))))
         refine Idx.mk k (spv y) _ rfl (by simp [hy]) rfl ?_
         (try (conv => whnf)); (repeat ((first | refine qT ?_ | refine qF ?_ | refine qO ?_ | (with_reducible intro z hz); (first | (replace hz := hz (by omega); subst hz) | subst hz)); (try (conv => whnf))))
         exact ⟨k + 1, ⟨by omega, all_take hy hpre (by unfold l100; exact decide_eq_true hs)⟩, by dsimp only; omega, (qSL 1 rfl rfl)⟩
       · have hno : x.p.all l100 = false := all_no hy (by unfold l100; exact decide_eq_false hs)
         have hf : fewI x = false := by rw [hfe, hno, Bool.false_and]
         rw [hf] at hfin
         (try (conv => whnf)); (repeat ((first | refine qT ?_ | refine qF ?_ | refine qO ?_ | (with_reducible intro z hz); (first | (replace hz := hz (by omega); subst hz) | subst hz)); (try (conv => whnf))))
         refine Idx.mk k (spv y) _ rfl (by simp [hy]) rfl ?_
         (try (conv => whnf)); (repeat ((first | refine qT ?_ | refine qF ?_ | refine qO ?_ | (with_reducible intro z hz); (first | (replace hz := hz (by omega); subst hz) | subst hz)); (try (conv => whnf))))
         exact hfin _ (ILes.refl _)
     | inr hge =>
       obtain rfl : k = x.p.length := by omega
       rw [List.take_length] at hpre
       rw [hpre, Bool.true_and] at hfe
       clear hpre hge hk
       (try (conv => whnf)); (repeat ((first | refine qT ?_ | refine qF ?_ | refine qO ?_ | (with_reducible intro z hz); (first | (replace hz := hz (by omega); subst hz) | subst hz)); (try (conv => whnf))))
       refine hLP _ _ _ Nat (fun k => ⟨[(1, .ptr 0 1 0), (6, .imm (.int .i64 (k : Nat)))], [.box 1 [.imm (.int .i64 x.kind), .imm (.sl 2 (x.p.map spv)), .imm (.sl 2 (x.q.map spv)), .imm (.int .i64 x.z), .imm (.int .i64 x.nth), .imm (.int .i64 x.unit.id.x), .imm (.int .i64 x.unit.id.y), .imm (.int .i64 x.unit.id.z), .imm (.int .i64 x.unit.kind), .imm (.str x.unit.label), .imm (.sl 4 (x.unit.head.map wdv)), .imm (.sl 4 (x.unit.words.map wdv)), .imm (.sl 8 (x.unit.kids.map uv)), .imm (.sl 1 (x.old.map IV.str)), .imm (.sl 1 (x.new.map IV.str)), .imm (.str x.lb), .imm (.str x.fr), .imm (.int .i64 x.sk), .imm (.int .i64 x.sd), .imm (.str x.se), .imm (.int .i64 x.a), .imm (.int .i64 x.i), .imm (.int .i64 x.d), .imm (.str x.ev), .imm (.sl 25 (x.bys.map itv))]]⟩) (fun k => k ≤ x.q.length ∧ (x.q.take k).all l100 = true) (fun k => x.q.length - k) 0 ⟨Nat.zero_le _, rfl⟩ (qSL 1 rfl rfl) ?_
       rintro k ⟨hk, hpre⟩
       have hho := Nat.lt_or_ge k x.q.length
       cases hho with
       | inl hlt =>
         obtain ⟨y, hy⟩ : ∃ y, x.q[k]? = some y := ⟨x.q[k], List.getElem?_eq_getElem hlt⟩
         by_cases hs : y.label.size ≤ 100
         · (try (conv => whnf)); (repeat ((first | refine qT ?_ | refine qF ?_ | refine qO ?_ | (with_reducible intro z hz); (first | (replace hz := hz (by omega); subst hz) | subst hz)); (try (conv => whnf))))
           refine Idx.mk k (spv y) _ rfl (by simp [hy]) rfl ?_
           (try (conv => whnf)); (repeat ((first | refine qT ?_ | refine qF ?_ | refine qO ?_ | (with_reducible intro z hz); (first | (replace hz := hz (by omega); subst hz) | subst hz)); (try (conv => whnf))))
           exact ⟨k + 1, ⟨by omega, all_take hy hpre (by unfold l100; exact decide_eq_true hs)⟩, by dsimp only; omega, (qSL 1 rfl rfl)⟩
         · have hno : x.q.all l100 = false := all_no hy (by unfold l100; exact decide_eq_false hs)
           have hf : fewI x = false := by rw [hfe, hno, Bool.false_and]
           rw [hf] at hfin
           (try (conv => whnf)); (repeat ((first | refine qT ?_ | refine qF ?_ | refine qO ?_ | (with_reducible intro z hz); (first | (replace hz := hz (by omega); subst hz) | subst hz)); (try (conv => whnf))))
           refine Idx.mk k (spv y) _ rfl (by simp [hy]) rfl ?_
           (try (conv => whnf)); (repeat ((first | refine qT ?_ | refine qF ?_ | refine qO ?_ | (with_reducible intro z hz); (first | (replace hz := hz (by omega); subst hz) | subst hz)); (try (conv => whnf))))
           exact hfin _ (ILes.refl _)
       | inr hge =>
         obtain rfl : k = x.q.length := by omega
         rw [List.take_length] at hpre
         rw [hpre, Bool.true_and] at hfe
         clear hpre hge hk
         (try (conv => whnf)); (repeat ((first | refine qT ?_ | refine qF ?_ | refine qO ?_ | (with_reducible intro z hz); (first | (replace hz := hz (by omega); subst hz) | subst hz)); (try (conv => whnf))))
         refine hLP _ _ _ Nat (fun k => ⟨[(1, .ptr 0 1 0), (7, .imm (.int .i64 (k : Nat)))], [.box 1 [.imm (.int .i64 x.kind), .imm (.sl 2 (x.p.map spv)), .imm (.sl 2 (x.q.map spv)), .imm (.int .i64 x.z), .imm (.int .i64 x.nth), .imm (.int .i64 x.unit.id.x), .imm (.int .i64 x.unit.id.y), .imm (.int .i64 x.unit.id.z), .imm (.int .i64 x.unit.kind), .imm (.str x.unit.label), .imm (.sl 4 (x.unit.head.map wdv)), .imm (.sl 4 (x.unit.words.map wdv)), .imm (.sl 8 (x.unit.kids.map uv)), .imm (.sl 1 (x.old.map IV.str)), .imm (.sl 1 (x.new.map IV.str)), .imm (.str x.lb), .imm (.str x.fr), .imm (.int .i64 x.sk), .imm (.int .i64 x.sd), .imm (.str x.se), .imm (.int .i64 x.a), .imm (.int .i64 x.i), .imm (.int .i64 x.d), .imm (.str x.ev), .imm (.sl 25 (x.bys.map itv))]]⟩) (fun k => k ≤ x.bys.length ∧ fewIs (x.bys.take k) = true) (fun k => x.bys.length - k) 0 ⟨Nat.zero_le _, rfl⟩ (qSL 1 rfl rfl) ?_
         rintro k ⟨hk, hpre⟩
         have hho := Nat.lt_or_ge k x.bys.length
         cases hho with
         | inl hlt =>
           obtain ⟨y, hy⟩ : ∃ y, x.bys[k]? = some y := ⟨x.bys[k], List.getElem?_eq_getElem hlt⟩
           have hI := ih y (List.mem_of_getElem? hy)
           have hyv := itv_eq y
           have hfy := hb y (List.mem_of_getElem? hy)
           have hyl : y.bys.length ≤ maxLen := by cases hfy with | mk _ _ h1 _ => exact h1.2.2.2.2
           unfold maxLen at hyl
           have hym : (y.bys.map itv).length = y.bys.length := List.length_map _
           rw [hyv] at hI
           by_cases hye : y.bys = []
           · have hflat : flatB y = true := by unfold flatB; rw [hye]
             have hyz : y.bys.length = 0 := by rw [hye]; rfl
             cases hfy' : fewI y
             · have hno := fewIs_no hy (by rw [hfy', Bool.and_false])
               have hf : fewI x = false := by rw [hfe, hno]
               rw [hf] at hfin
               rw [hfy'] at hI
               (try (conv => whnf)); (repeat ((first | refine qT ?_ | refine qF ?_ | refine qO ?_ | (with_reducible intro z hz); (first | (replace hz := hz (by omega); subst hz) | subst hz)); (try (conv => whnf))))
               refine Idx.mk k (itv y) _ rfl (by simp [hy]) (by rw [hyv]; try rfl) ?_
               (try (conv => whnf)); (repeat ((first | refine qT ?_ | refine qF ?_ | refine qO ?_ | (with_reducible intro z hz); (first | (replace hz := hz (by omega); subst hz) | subst hz)); (try (conv => whnf))))
               refine Idx.mk k (itv y) _ rfl (by simp [hy]) (by rw [hyv]; try rfl) ?_
               (try (conv => whnf)); (repeat ((first | refine qT ?_ | refine qF ?_ | refine qO ?_ | (with_reducible intro z hz); (first | (replace hz := hz (by omega); subst hz) | subst hz) | (refine CallV.mk _ (hC _ _ _ (PCw.of hI)) (fun js hjs => ?_); subst hjs)); (try (conv => whnf))))
               exact hfin _ (ILes.refl _)
             · rw [hfy'] at hI
               (try (conv => whnf)); (repeat ((first | refine qT ?_ | refine qF ?_ | refine qO ?_ | (with_reducible intro z hz); (first | (replace hz := hz (by omega); subst hz) | subst hz)); (try (conv => whnf))))
               refine Idx.mk k (itv y) _ rfl (by simp [hy]) (by rw [hyv]; try rfl) ?_
               (try (conv => whnf)); (repeat ((first | refine qT ?_ | refine qF ?_ | refine qO ?_ | (with_reducible intro z hz); (first | (replace hz := hz (by omega); subst hz) | subst hz)); (try (conv => whnf))))
               refine Idx.mk k (itv y) _ rfl (by simp [hy]) (by rw [hyv]; try rfl) ?_
               (try (conv => whnf)); (repeat ((first | refine qT ?_ | refine qF ?_ | refine qO ?_ | (with_reducible intro z hz); (first | (replace hz := hz (by omega); subst hz) | subst hz) | (refine CallV.mk _ (hC _ _ _ (PCw.of hI)) (fun js hjs => ?_); subst hjs)); (try (conv => whnf))))
               exact ⟨k + 1, ⟨by omega, by rw [take_at hy, fewIs_app, hpre]; simp [fewIs, hfy', hflat]⟩, by dsimp only; omega, (qSL 1 rfl rfl)⟩
           · obtain ⟨g, r, hgr⟩ := List.exists_cons_of_ne_nil hye
             have hyz : 0 < y.bys.length := by rw [hgr]; simp
             have hgv := itv_eq g
             have hgf : FitT g := by cases hfy with | mk _ _ _ hb' => exact hb' g (by rw [hgr]; exact List.mem_cons_self)
             have hgl : g.bys.length ≤ maxLen := by cases hgf with | mk _ _ h1 _ => exact h1.2.2.2.2
             unfold maxLen at hgl
             have hgm : (g.bys.map itv).length = g.bys.length := List.length_map _
             have hg0 : (y.bys.map itv)[0]? = some (itv g) := by rw [hgr]; rfl
             by_cases hge : g.bys = []
             · have hflat : flatB y = true := by unfold flatB; rw [hgr]; simp [hge]
               have hgz : g.bys.length = 0 := by rw [hge]; rfl
               cases hfy' : fewI y
               · have hno := fewIs_no hy (by rw [hfy', Bool.and_false])
                 have hf : fewI x = false := by rw [hfe, hno]
                 rw [hf] at hfin
                 rw [hfy'] at hI
                 (try (conv => whnf)); (repeat ((first | refine qT ?_ | refine qF ?_ | refine qO ?_ | (with_reducible intro z hz); (first | (replace hz := hz (by omega); subst hz) | subst hz)); (try (conv => whnf))))
                 refine Idx.mk k (itv y) _ rfl (by simp [hy]) (by rw [hyv]; try rfl) ?_
                 (try (conv => whnf)); (repeat ((first | refine qT ?_ | refine qF ?_ | refine qO ?_ | (with_reducible intro z hz); (first | (replace hz := hz (by omega); subst hz) | subst hz)); (try (conv => whnf))))
                 refine Idx.mk k (itv y) _ rfl (by simp [hy]) (by rw [hyv]; try rfl) ?_
                 (try (conv => whnf)); (repeat ((first | refine qT ?_ | refine qF ?_ | refine qO ?_ | (with_reducible intro z hz); (first | (replace hz := hz (by omega); subst hz) | subst hz)); (try (conv => whnf))))
                 refine Idx.mk 0 (itv g) _ rfl hg0 (by rw [hgv]; try rfl) ?_
                 (try (conv => whnf)); (repeat ((first | refine qT ?_ | refine qF ?_ | refine qO ?_ | (with_reducible intro z hz); (first | (replace hz := hz (by omega); subst hz) | subst hz)); (try (conv => whnf))))
                 refine Idx.mk k (itv y) _ rfl (by simp [hy]) (by rw [hyv]; try rfl) ?_
                 (try (conv => whnf)); (repeat ((first | refine qT ?_ | refine qF ?_ | refine qO ?_ | (with_reducible intro z hz); (first | (replace hz := hz (by omega); subst hz) | subst hz) | (refine CallV.mk _ (hC _ _ _ (PCw.of hI)) (fun js hjs => ?_); subst hjs)); (try (conv => whnf))))
                 exact hfin _ (ILes.refl _)
               · rw [hfy'] at hI
                 (try (conv => whnf)); (repeat ((first | refine qT ?_ | refine qF ?_ | refine qO ?_ | (with_reducible intro z hz); (first | (replace hz := hz (by omega); subst hz) | subst hz)); (try (conv => whnf))))
                 refine Idx.mk k (itv y) _ rfl (by simp [hy]) (by rw [hyv]; try rfl) ?_
                 (try (conv => whnf)); (repeat ((first | refine qT ?_ | refine qF ?_ | refine qO ?_ | (with_reducible intro z hz); (first | (replace hz := hz (by omega); subst hz) | subst hz)); (try (conv => whnf))))
                 refine Idx.mk k (itv y) _ rfl (by simp [hy]) (by rw [hyv]; try rfl) ?_
                 (try (conv => whnf)); (repeat ((first | refine qT ?_ | refine qF ?_ | refine qO ?_ | (with_reducible intro z hz); (first | (replace hz := hz (by omega); subst hz) | subst hz)); (try (conv => whnf))))
                 refine Idx.mk 0 (itv g) _ rfl hg0 (by rw [hgv]; try rfl) ?_
                 (try (conv => whnf)); (repeat ((first | refine qT ?_ | refine qF ?_ | refine qO ?_ | (with_reducible intro z hz); (first | (replace hz := hz (by omega); subst hz) | subst hz)); (try (conv => whnf))))
                 refine Idx.mk k (itv y) _ rfl (by simp [hy]) (by rw [hyv]; try rfl) ?_
                 (try (conv => whnf)); (repeat ((first | refine qT ?_ | refine qF ?_ | refine qO ?_ | (with_reducible intro z hz); (first | (replace hz := hz (by omega); subst hz) | subst hz) | (refine CallV.mk _ (hC _ _ _ (PCw.of hI)) (fun js hjs => ?_); subst hjs)); (try (conv => whnf))))
                 exact ⟨k + 1, ⟨by omega, by rw [take_at hy, fewIs_app, hpre]; simp [fewIs, hfy', hflat]⟩, by dsimp only; omega, (qSL 1 rfl rfl)⟩
             · have hflat : flatB y = false := by
                 unfold flatB
                 rw [hgr]
                 show g.bys.isEmpty = false
                 cases hgb : g.bys with
                 | nil => exact absurd hgb hge
                 | cons _ _ => rfl
               have hgz : 0 < g.bys.length := List.length_pos_iff.2 hge
               have hno := fewIs_no hy (by rw [hflat, Bool.false_and])
               have hf : fewI x = false := by rw [hfe, hno]
               rw [hf] at hfin
               (try (conv => whnf)); (repeat ((first | refine qT ?_ | refine qF ?_ | refine qO ?_ | (with_reducible intro z hz); (first | (replace hz := hz (by omega); subst hz) | subst hz)); (try (conv => whnf))))
               refine Idx.mk k (itv y) _ rfl (by simp [hy]) (by rw [hyv]; try rfl) ?_
               (try (conv => whnf)); (repeat ((first | refine qT ?_ | refine qF ?_ | refine qO ?_ | (with_reducible intro z hz); (first | (replace hz := hz (by omega); subst hz) | subst hz)); (try (conv => whnf))))
               refine Idx.mk k (itv y) _ rfl (by simp [hy]) (by rw [hyv]; try rfl) ?_
               (try (conv => whnf)); (repeat ((first | refine qT ?_ | refine qF ?_ | refine qO ?_ | (with_reducible intro z hz); (first | (replace hz := hz (by omega); subst hz) | subst hz)); (try (conv => whnf))))
               refine Idx.mk 0 (itv g) _ rfl hg0 (by rw [hgv]; try rfl) ?_
               (try (conv => whnf)); (repeat ((first | refine qT ?_ | refine qF ?_ | refine qO ?_ | (with_reducible intro z hz); (first | (replace hz := hz (by omega); subst hz) | subst hz)); (try (conv => whnf))))
               exact hfin _ (ILes.refl _)
         | inr hge =>
           obtain rfl : k = x.bys.length := by omega
           rw [List.take_length] at hpre
           rw [hpre] at hfe
           rw [hfe] at hfin
           (try (conv => whnf)); (repeat ((first | refine qT ?_ | refine qF ?_ | refine qO ?_ | (with_reducible intro z hz); (first | (replace hz := hz (by omega); subst hz) | subst hz)); (try (conv => whnf))))
           exact hfin _ (ILes.refl _)
end Go.Proofs.YtglkpmhamekpmaaGreat.Po
