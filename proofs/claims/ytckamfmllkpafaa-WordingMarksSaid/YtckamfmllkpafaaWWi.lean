/-
  Brief, Short, few; the law's few.
-/
import Derived.Test.YtckamfmllkpafaaWWh
namespace Go.Proofs.Ytckamfmllkpafaa.Pw
open Go Go.Pv Go.RowKit Go.Proofs.Ytckamfmllkpafaa.Pu Go.Proofs.Ytckamfmllkpafaa.Pb
set_option linter.unusedSimpArgs false
open Lab Lcs Go.Proofs.Ytckamfmllkpafaa
set_option maxRecDepth 10000
set_option maxHeartbeats 16000000
theorem tqf_ss : tdOf Try.prog 59 = some ⟨false, 1, [.nil], .slice 34 1 24⟩ := by kernel_rfl
def tdf : List (TypeId × TD) := (59, ⟨false, 1, [.nil], .slice 34 1 24⟩) :: tdl
theorem tdf_ok : AllTd Try.prog tdf := ⟨tqf_ss, tdl_ok⟩
def tbe (fr : Nat → List Nat) (hk : Nat → Bool) : Tb := ⟨Pv.look tdf, eqs, fun _ => none, fr, hk, fun _ => 0⟩
theorem tbf_ok {fr : Nat → List Nat} {hk : Nat → Bool} : ∀ t d, (tbe fr hk).td t = some d → tdOf Try.prog t = some d := Pv.look_ok tdf_ok
def tbx : Tb := tbe (fun _ => []) fun _ => false
def s100 (s : Str) : Bool := decide (s.size ≤ 100)
def briefS (l : List Str) : Bool := l.all s100 && decide (l.length ≤ 300)
def shortW (w : List Wd) : Bool := w.all (fun x => s100 x.text) && decide (w.length ≤ 300)
theorem all_take {α : Type} {f : α → Bool} {l : List α} {k : Nat} {x : α} (hx : l[k]? = some x) (h : (l.take k).all f = true) (hf : f x = true) : (l.take (k + 1)).all f = true := by
 rw [take_at hx, List.all_append, h]
 simp [hf]
theorem all_no {α : Type} {f : α → Bool} {l : List α} {k : Nat} {x : α} (hx : l[k]? = some x) (hf : f x = false) : l.all f = false := by
 rw [List.all_eq_false]
 exact ⟨x, List.mem_of_getElem? hx, by rw [hf]; decide⟩
theorem brief_pc (l : List Str) (hl : l.length ≤ 9223372036854775807) : PC Try.prog env0 30 [.sl 1 (l.map IV.str)] [.bool (briefS l)] := by
 have h1 : (l.map IV.str).length = l.length := List.length_map _
 refine PC.of_va (T := tbx) eqs_ok tbf_ok rfl mixed Try.func30 rfl rfl (Nat.le_of_ble_eq_true rfl) ?_; intro Γ C WK LP fin h0 hW hC hB hR hLP hfin
 (try (conv => whnf)); (repeat ((first | refine qT ?_ | refine qF ?_ | refine qO ?_ | (with_reducible intro z hz); (first | (replace hz := hz (by omega); subst hz) | subst hz)); (try (conv => whnf))))
 refine hLP _ _ _ Nat (fun k => ⟨[(0, .imm (.sl 1 (l.map IV.str))), (3, .imm (.int .i64 (k : Nat)))], []⟩) (fun k => k ≤ l.length ∧ (l.take k).all s100 = true) (fun k => l.length - k) 0 ⟨Nat.zero_le _, rfl⟩ (qSL 0 rfl rfl) ?_
 rintro k ⟨hk, hpre⟩
 have hho := Nat.lt_or_ge k l.length
 cases hho with
 | inl hlt =>
   obtain ⟨y, hy⟩ : ∃ y, l[k]? = some y := ⟨l[k], List.getElem?_eq_getElem hlt⟩
   by_cases hs : y.size ≤ 100
   · (try (conv => whnf)); (repeat ((first | refine qT ?_ | refine qF ?_ | refine qO ?_ | (with_reducible intro z hz); (first | (replace hz := hz (by omega); subst hz) | subst hz)); (try (conv => whnf))))
     refine Idx.mk k (.str y) _ rfl (by simp [hy]) rfl ?_
     (try (conv => whnf)); (repeat ((first | refine qT ?_ | refine qF ?_ | refine qO ?_ | (with_reducible intro z hz); (first | (replace hz := hz (by omega); subst hz) | subst hz)); (try (conv => whnf))))
     exact ⟨k + 1, ⟨by omega, all_take hy hpre (by unfold s100; exact decide_eq_true hs)⟩, by dsimp only; omega, (qSL 0 rfl rfl)⟩
   · rw [show briefS l = false by unfold briefS; rw [all_no hy (by unfold s100; exact decide_eq_false hs)]; rfl] at hfin
     (try (conv => whnf)); (repeat ((first | refine qT ?_ | refine qF ?_ | refine qO ?_ | (with_reducible intro z hz); (first | (replace hz := hz (by omega); subst hz) | subst hz)); (try (conv => whnf))))
     refine Idx.mk k (.str y) _ rfl (by simp [hy]) rfl ?_
     (try (conv => whnf)); (repeat ((first | refine qT ?_ | refine qF ?_ | refine qO ?_ | (with_reducible intro z hz); (first | (replace hz := hz (by omega); subst hz) | subst hz)); (try (conv => whnf))))
     exact hfin _ (ILes.refl _)
 | inr hge =>
   obtain rfl : k = l.length := by omega
   rw [List.take_length] at hpre
   rw [show briefS l = decide (l.length ≤ 300) by unfold briefS; rw [hpre]; rfl] at hfin
   by_cases hc : l.length ≤ 300
   · rw [decide_eq_true hc] at hfin
     (try (conv => whnf)); (repeat ((first | refine qT ?_ | refine qF ?_ | refine qO ?_ | (with_reducible intro z hz); (first | (replace hz := hz (by omega); subst hz) | subst hz)); (try (conv => whnf))))
     exact hfin _ (ILes.refl _)
   · rw [decide_eq_false hc] at hfin
     (try (conv => whnf)); (repeat ((first | refine qT ?_ | refine qF ?_ | refine qO ?_ | (with_reducible intro z hz); (first | (replace hz := hz (by omega); subst hz) | subst hz)); (try (conv => whnf))))
     exact hfin _ (ILes.refl _)
theorem short_pc (l : List Wd) (hl : l.length ≤ 9223372036854775807) : PC Try.prog env0 31 [.sl 4 (l.map wdv)] [.bool (shortW l)] := by
 have h1 : (l.map wdv).length = l.length := List.length_map _
 refine PC.of_va (T := tbx) eqs_ok tbf_ok rfl mixed Try.func31 rfl rfl (Nat.le_of_ble_eq_true rfl) ?_; intro Γ C WK LP fin h0 hW hC hB hR hLP hfin
 (try (conv => whnf)); (repeat ((first | refine qT ?_ | refine qF ?_ | refine qO ?_ | (with_reducible intro z hz); (first | (replace hz := hz (by omega); subst hz) | subst hz)); (try (conv => whnf))))
 refine hLP _ _ _ Nat (fun k => ⟨[(0, .imm (.sl 4 (l.map wdv))), (3, .imm (.int .i64 (k : Nat)))], []⟩) (fun k => k ≤ l.length ∧ (l.take k).all (fun x => s100 x.text) = true) (fun k => l.length - k) 0 ⟨Nat.zero_le _, rfl⟩ (qSL 0 rfl rfl) ?_
 rintro k ⟨hk, hpre⟩
 have hho := Nat.lt_or_ge k l.length
 cases hho with
 | inl hlt =>
   obtain ⟨y, hy⟩ : ∃ y, l[k]? = some y := ⟨l[k], List.getElem?_eq_getElem hlt⟩
   by_cases hs : y.text.size ≤ 100
   · (try (conv => whnf)); (repeat ((first | refine qT ?_ | refine qF ?_ | refine qO ?_ | (with_reducible intro z hz); (first | (replace hz := hz (by omega); subst hz) | subst hz)); (try (conv => whnf))))
     refine Idx.mk k (wdv y) _ rfl (by simp [hy]) rfl ?_
     (try (conv => whnf)); (repeat ((first | refine qT ?_ | refine qF ?_ | refine qO ?_ | (with_reducible intro z hz); (first | (replace hz := hz (by omega); subst hz) | subst hz)); (try (conv => whnf))))
     exact ⟨k + 1, ⟨by omega, all_take hy hpre (by unfold s100; exact decide_eq_true hs)⟩, by dsimp only; omega, (qSL 0 rfl rfl)⟩
   · rw [show shortW l = false by unfold shortW; rw [all_no hy (by unfold s100; exact decide_eq_false hs)]; rfl] at hfin
     (try (conv => whnf)); (repeat ((first | refine qT ?_ | refine qF ?_ | refine qO ?_ | (with_reducible intro z hz); (first | (replace hz := hz (by omega); subst hz) | subst hz)); (try (conv => whnf))))
     refine Idx.mk k (wdv y) _ rfl (by simp [hy]) rfl ?_
     (try (conv => whnf)); (repeat ((first | refine qT ?_ | refine qF ?_ | refine qO ?_ | (with_reducible intro z hz); (first | (replace hz := hz (by omega); subst hz) | subst hz)); (try (conv => whnf))))
     exact hfin _ (ILes.refl _)
 | inr hge =>
   obtain rfl : k = l.length := by omega
   rw [List.take_length] at hpre
   rw [show shortW l = decide (l.length ≤ 300) by unfold shortW; rw [hpre]; rfl] at hfin
   by_cases hc : l.length ≤ 300
   · rw [decide_eq_true hc] at hfin
     (try (conv => whnf)); (repeat ((first | refine qT ?_ | refine qF ?_ | refine qO ?_ | (with_reducible intro z hz); (first | (replace hz := hz (by omega); subst hz) | subst hz)); (try (conv => whnf))))
     exact hfin _ (ILes.refl _)
   · rw [decide_eq_false hc] at hfin
     (try (conv => whnf)); (repeat ((first | refine qT ?_ | refine qF ?_ | refine qO ?_ | (with_reducible intro z hz); (first | (replace hz := hz (by omega); subst hz) | subst hz)); (try (conv => whnf))))
     exact hfin _ (ILes.refl _)
def fewW (w : List Wd) (L : List (List Str)) : Bool := L.all briefS && shortW w
def rowS (l : List Str) : IV := .sl 1 (l.map IV.str)
theorem few_pc (w : List Wd) (L : List (List Str)) (hw : w.length ≤ 9223372036854775807) (hL : L.length ≤ 10) (hl : ∀ l ∈ L, l.length ≤ 9223372036854775807) : PC Try.prog env0 11 [.sl 4 (w.map wdv), .sl 1 (L.map rowS)] [.bool (fewW w L)] := by
 have h1 : (w.map wdv).length = w.length := List.length_map _
 have h2 : (L.map rowS).length = L.length := List.length_map _
 have hS := short_pc w hw
 refine PC.of_va (T := tbx) eqs_ok tbf_ok rfl mixed Try.func11 rfl rfl (Nat.le_of_ble_eq_true rfl) ?_; intro Γ C WK LP fin h0 hW hC hB hR hLP hfin
 (try (conv => whnf)); (repeat ((first | refine qT ?_ | refine qF ?_ | refine qO ?_ | (with_reducible intro z hz); (first | (replace hz := hz (by omega); subst hz) | subst hz)); (try (conv => whnf))))
 refine hLP _ _ _ Nat (fun k => ⟨[(0, .imm (.sl 4 (w.map wdv))), (1, .imm (.sl 1 (L.map rowS))), (5, .imm (.int .i64 (k : Nat)))], []⟩) (fun k => k ≤ L.length ∧ (L.take k).all briefS = true) (fun k => L.length - k) 0 ⟨Nat.zero_le _, rfl⟩ (qSL 0 rfl rfl) ?_
 rintro k ⟨hk, hpre⟩
 have hho := Nat.lt_or_ge k L.length
 cases hho with
 | inl hlt =>
   obtain ⟨y, hy⟩ : ∃ y, L[k]? = some y := ⟨L[k], List.getElem?_eq_getElem hlt⟩
   have hB := brief_pc y (hl y (List.mem_of_getElem? hy))
   cases hb : briefS y with
   | true =>
     rw [hb] at hB
     (try (conv => whnf)); (repeat ((first | refine qT ?_ | refine qF ?_ | refine qO ?_ | (with_reducible intro z hz); (first | (replace hz := hz (by omega); subst hz) | subst hz)); (try (conv => whnf))))
     refine Idx.mk k (rowS y) _ rfl (by simp [hy]) rfl ?_
     (try (conv => whnf)); (repeat ((first | refine qT ?_ | refine qF ?_ | refine qO ?_ | (with_reducible intro z hz); (first | (replace hz := hz (by omega); subst hz) | subst hz) | (refine CallV.mk _ (hC _ _ _ (PCw.of hB)) (fun js hjs => ?_); subst hjs)); (try (conv => whnf))))
     exact ⟨k + 1, ⟨by omega, all_take hy hpre hb⟩, by dsimp only; omega, (qSL 0 rfl rfl)⟩
   | false =>
     rw [hb] at hB
     rw [show fewW w L = false by unfold fewW; rw [all_no hy hb]; rfl] at hfin
     (try (conv => whnf)); (repeat ((first | refine qT ?_ | refine qF ?_ | refine qO ?_ | (with_reducible intro z hz); (first | (replace hz := hz (by omega); subst hz) | subst hz)); (try (conv => whnf))))
     refine Idx.mk k (rowS y) _ rfl (by simp [hy]) rfl ?_
     (try (conv => whnf)); (repeat ((first | refine qT ?_ | refine qF ?_ | refine qO ?_ | (with_reducible intro z hz); (first | (replace hz := hz (by omega); subst hz) | subst hz) | (refine CallV.mk _ (hC _ _ _ (PCw.of hB)) (fun js hjs => ?_); subst hjs)); (try (conv => whnf))))
     exact hfin _ (ILes.refl _)
 | inr hge =>
   obtain rfl : k = L.length := by omega
   rw [List.take_length] at hpre
   rw [show fewW w L = shortW w by unfold fewW; rw [hpre]; rfl] at hfin
   (try (conv => whnf)); (repeat ((first | refine qT ?_ | refine qF ?_ | refine qO ?_ | (with_reducible intro z hz); (first | (replace hz := hz (by omega); subst hz) | subst hz) | (refine CallV.mk _ (hC _ _ _ (PCw.of hS)) (fun js hjs => ?_); subst hjs)); (try (conv => whnf))))
   exact hfin _ (ILes.refl _)
end Go.Proofs.Ytckamfmllkpafaa.Pw
