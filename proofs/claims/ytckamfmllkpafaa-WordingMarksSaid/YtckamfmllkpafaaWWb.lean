/-
  Occurrences of words: equality of rows, FindAll; the reference's Same, Stands, Find.
-/
import Derived.Test.YtckamfmllkpafaaWWa
namespace Go.Proofs.Ytckamfmllkpafaa.Pw
open Go Go.Pv Go.RowKit Go.Proofs.Ytckamfmllkpafaa.Pu Go.Proofs.Ytckamfmllkpafaa.Pb
set_option linter.unusedSimpArgs false
open Lab Lcs Go.Proofs.Ytckamfmllkpafaa
set_option maxRecDepth 10000
set_option maxHeartbeats 16000000
theorem prefix_ne {α : Type} {a b : List α} {k : Nat} {x y : α} (hx : a[k]? = some x) (hy : b[k]? = some y) (h : x ≠ y) : a ≠ b := fun e => by rw [e, hy] at hx; exact h (Option.some.inj hx).symm
theorem equal_pc (a b : List Str) (_ha : a.length ≤ 1000000) (_hb : b.length ≤ 1000000) : PC Try.prog env0 57 [.sl 1 (a.map IV.str), .sl 1 (b.map IV.str)] [.bool (decide (a = b))] := by
 have h1 : (a.map IV.str).length = a.length := List.length_map _
 have h2 : (b.map IV.str).length = b.length := List.length_map _
 by_cases hl : a.length = b.length
 · refine PC.of_va (T := tb0) eqs_ok tb_ok rfl mixed Try.func57 rfl rfl (Nat.le_of_ble_eq_true rfl) ?_; intro Γ C WK LP fin h0 hW hC hB hR hLP hfin
   (try (conv => whnf)); (repeat ((first | refine qT ?_ | refine qF ?_ | refine qO ?_ | (with_reducible intro z hz); (first | (replace hz := hz (by omega); subst hz) | subst hz)); (try (conv => whnf))))
   refine hLP _ _ _ Nat (fun k => ⟨[(0, .imm (.sl 1 (a.map IV.str))), (1, .imm (.sl 1 (b.map IV.str))), (12, .imm (.int .i64 (a.length : Nat))), (13, .imm (.int .i64 (k : Nat)))], []⟩) (fun k => k ≤ a.length ∧ a.take k = b.take k) (fun k => a.length - k) 0 ⟨Nat.zero_le _, rfl⟩ (qSL 0 rfl rfl) ?_
   rintro k ⟨hk, hab⟩
   have hho := Nat.lt_or_ge k a.length
   cases hho with
   | inl hlt =>
     obtain ⟨x, hx⟩ : ∃ x, a[k]? = some x := ⟨a[k], List.getElem?_eq_getElem hlt⟩
     obtain ⟨y, hy⟩ : ∃ y, b[k]? = some y := ⟨b[k]'(by omega), List.getElem?_eq_getElem (by omega)⟩
     by_cases hxy : x = y
     · (try (conv => whnf)); (repeat ((first | refine qT ?_ | refine qF ?_ | refine qO ?_ | (with_reducible intro z hz); (first | (replace hz := hz (by omega); subst hz) | subst hz)); (try (conv => whnf))))
       refine Idx.mk k (.str x) _ rfl (by simp [hx]) rfl ?_
       (try (conv => whnf)); (repeat ((first | refine qT ?_ | refine qF ?_ | refine qO ?_ | (with_reducible intro z hz); (first | (replace hz := hz (by omega); subst hz) | subst hz)); (try (conv => whnf))))
       refine Idx.mk k (.str y) _ rfl (by simp [hy]) rfl ?_
       (try (conv => whnf)); (repeat ((first | refine qT ?_ | refine qF ?_ | refine qO ?_ | (with_reducible intro z hz); (first | (replace hz := hz (by omega); subst hz) | subst hz)); (try (conv => whnf))))
       exact ⟨k + 1, ⟨by omega, by rw [take_at hx, take_at hy, hab, hxy]⟩, by dsimp only; omega, (qSL 0 rfl rfl)⟩
     · (try (conv => whnf)); (repeat ((first | refine qT ?_ | refine qF ?_ | refine qO ?_ | (with_reducible intro z hz); (first | (replace hz := hz (by omega); subst hz) | subst hz)); (try (conv => whnf))))
       refine Idx.mk k (.str x) _ rfl (by simp [hx]) rfl ?_
       (try (conv => whnf)); (repeat ((first | refine qT ?_ | refine qF ?_ | refine qO ?_ | (with_reducible intro z hz); (first | (replace hz := hz (by omega); subst hz) | subst hz)); (try (conv => whnf))))
       refine Idx.mk k (.str y) _ rfl (by simp [hy]) rfl ?_
       (try (conv => whnf)); (repeat ((first | refine qT ?_ | refine qF ?_ | refine qO ?_ | (with_reducible intro z hz); (first | (replace hz := hz (by omega); subst hz) | subst hz)); (try (conv => whnf))))
       rw [decide_eq_false (prefix_ne hx hy hxy)] at hfin
       exact hfin _ (ILes.refl _)
   | inr hge =>
     (try (conv => whnf)); (repeat ((first | refine qT ?_ | refine qF ?_ | refine qO ?_ | (with_reducible intro z hz); (first | (replace hz := hz (by omega); subst hz) | subst hz)); (try (conv => whnf))))
     obtain rfl : k = a.length := by omega
     rw [List.take_length, hl, List.take_length] at hab
     rw [decide_eq_true hab] at hfin
     exact hfin _ (ILes.refl _)
 · rw [decide_eq_false (fun e => hl (by rw [e]))]
   refine PC.of_va (T := tb0) eqs_ok tb_ok rfl mixed Try.func57 rfl rfl (Nat.le_of_ble_eq_true rfl) ?_; intro Γ C WK LP fin h0 hW hC hB hR hLP hfin
   (try (conv => whnf)); (repeat ((first | refine qT ?_ | refine qF ?_ | refine qO ?_ | (with_reducible intro z hz); (first | (replace hz := hz (by omega); subst hz) | subst hz)); (try (conv => whnf))))
   exact hfin _ (ILes.refl _)
theorem same4_pc (a b : List Str) (_ha : a.length ≤ 1000000) (_hb : b.length ≤ 1000000) : PC Try.prog env0 15 [.sl 1 (a.map IV.str), .sl 1 (b.map IV.str)] [.bool (decide (a = b))] := by
 have h1 : (a.map IV.str).length = a.length := List.length_map _
 have h2 : (b.map IV.str).length = b.length := List.length_map _
 by_cases hl : a.length = b.length
 · refine PC.of_va (T := tb0) eqs_ok tb_ok rfl mixed Try.func15 rfl rfl (Nat.le_of_ble_eq_true rfl) ?_; intro Γ C WK LP fin h0 hW hC hB hR hLP hfin
   (try (conv => whnf)); (repeat ((first | refine qT ?_ | refine qF ?_ | refine qO ?_ | (with_reducible intro z hz); (first | (replace hz := hz (by omega); subst hz) | subst hz)); (try (conv => whnf))))
   refine hLP _ _ _ Nat (fun k => ⟨[(0, .imm (.sl 1 (a.map IV.str))), (1, .imm (.sl 1 (b.map IV.str))), (5, .imm (.int .i64 (k : Nat)))], []⟩) (fun k => k ≤ a.length ∧ a.take k = b.take k) (fun k => a.length - k) 0 ⟨Nat.zero_le _, rfl⟩ (qSL 0 rfl rfl) ?_
   rintro k ⟨hk, hab⟩
   have hho := Nat.lt_or_ge k a.length
   cases hho with
   | inl hlt =>
     obtain ⟨x, hx⟩ : ∃ x, a[k]? = some x := ⟨a[k], List.getElem?_eq_getElem hlt⟩
     obtain ⟨y, hy⟩ : ∃ y, b[k]? = some y := ⟨b[k]'(by omega), List.getElem?_eq_getElem (by omega)⟩
     by_cases hxy : x = y
     · (try (conv => whnf)); (repeat ((first | refine qT ?_ | refine qF ?_ | refine qO ?_ | (with_reducible intro z hz); (first | (replace hz := hz (by omega); subst hz) | subst hz)); (try (conv => whnf))))
       refine Idx.mk k (.str x) _ rfl (by simp [hx]) rfl ?_
       (try (conv => whnf)); (repeat ((first | refine qT ?_ | refine qF ?_ | refine qO ?_ | (with_reducible intro z hz); (first | (replace hz := hz (by omega); subst hz) | subst hz)); (try (conv => whnf))))
       refine Idx.mk k (.str y) _ rfl (by simp [hy]) rfl ?_
       (try (conv => whnf)); (repeat ((first | refine qT ?_ | refine qF ?_ | refine qO ?_ | (with_reducible intro z hz); (first | (replace hz := hz (by omega); subst hz) | subst hz)); (try (conv => whnf))))
       exact ⟨k + 1, ⟨by omega, by rw [take_at hx, take_at hy, hab, hxy]⟩, by dsimp only; omega, (qSL 0 rfl rfl)⟩
     · (try (conv => whnf)); (repeat ((first | refine qT ?_ | refine qF ?_ | refine qO ?_ | (with_reducible intro z hz); (first | (replace hz := hz (by omega); subst hz) | subst hz)); (try (conv => whnf))))
       refine Idx.mk k (.str x) _ rfl (by simp [hx]) rfl ?_
       (try (conv => whnf)); (repeat ((first | refine qT ?_ | refine qF ?_ | refine qO ?_ | (with_reducible intro z hz); (first | (replace hz := hz (by omega); subst hz) | subst hz)); (try (conv => whnf))))
       refine Idx.mk k (.str y) _ rfl (by simp [hy]) rfl ?_
       (try (conv => whnf)); (repeat ((first | refine qT ?_ | refine qF ?_ | refine qO ?_ | (with_reducible intro z hz); (first | (replace hz := hz (by omega); subst hz) | subst hz)); (try (conv => whnf))))
       rw [decide_eq_false (prefix_ne hx hy hxy)] at hfin
       exact hfin _ (ILes.refl _)
   | inr hge =>
     (try (conv => whnf)); (repeat ((first | refine qT ?_ | refine qF ?_ | refine qO ?_ | (with_reducible intro z hz); (first | (replace hz := hz (by omega); subst hz) | subst hz)); (try (conv => whnf))))
     obtain rfl : k = a.length := by omega
     rw [List.take_length, hl, List.take_length] at hab
     rw [decide_eq_true hab] at hfin
     exact hfin _ (ILes.refl _)
 · rw [decide_eq_false (fun e => hl (by rw [e]))]
   refine PC.of_va (T := tb0) eqs_ok tb_ok rfl mixed Try.func15 rfl rfl (Nat.le_of_ble_eq_true rfl) ?_; intro Γ C WK LP fin h0 hW hC hB hR hLP hfin
   (try (conv => whnf)); (repeat ((first | refine qT ?_ | refine qF ?_ | refine qO ?_ | (with_reducible intro z hz); (first | (replace hz := hz (by omega); subst hz) | subst hz)); (try (conv => whnf))))
   exact hfin _ (ILes.refl _)
def atB (l p : List Str) (i : Nat) : Bool := decide ((l.drop i).take p.length = p)
def occ (l p : List Str) : Nat → Nat → List Nat
 | 0, _ => []
 | n + 1, i => if i + p.length ≤ l.length then (if atB l p i = true then i :: occ l p n (i + p.length) else occ l p n (i + 1)) else []
def occs (l p : List Str) : List Nat := if p.length = 0 then [] else occ l p (l.length + 1) 0
def zi (n : Nat) : IV := .int .i64 ((n : Nat) : Int)
def zs (l : List Nat) : List IV := l.map zi
theorem occ_more (l p : List Str) (hp : 0 < p.length) : ∀ (n m i : Nat), l.length < i + n → n ≤ m → occ l p m i = occ l p n i
 | 0, m, i, h, _ => by
   cases m with
   | zero => rfl
   | succ m => simp only [occ]; rw [if_neg (by omega)]
 | n + 1, 0, i, _, h => by omega
 | n + 1, m + 1, i, h, hm => by
   simp only [occ]
   rw [occ_more l p hp n m (i + p.length) (by omega) (by omega), occ_more l p hp n m (i + 1) (by omega) (by omega)]
def occF (l p : List Str) (i : Nat) : List Nat := occ l p (l.length + 1 - i) i
theorem occF_hit {l p : List Str} {i : Nat} (hp : 0 < p.length) (h : i + p.length ≤ l.length) (ha : atB l p i = true) : occF l p i = i :: occF l p (i + p.length) := by
 unfold occF
 obtain ⟨n, hn⟩ : ∃ n, l.length + 1 - i = n + 1 := ⟨l.length - i, by omega⟩
 rw [hn, occ, if_pos h, if_pos ha, occ_more l p hp (l.length + 1 - (i + p.length)) n (i + p.length) (by omega) (by omega)]
theorem occF_miss {l p : List Str} {i : Nat} (hp : 0 < p.length) (h : i + p.length ≤ l.length) (ha : ¬ atB l p i = true) : occF l p i = occF l p (i + 1) := by
 unfold occF
 obtain ⟨n, hn⟩ : ∃ n, l.length + 1 - i = n + 1 := ⟨l.length - i, by omega⟩
 rw [hn, occ, if_pos h, if_neg ha, occ_more l p hp (l.length + 1 - (i + 1)) n (i + 1) (by omega) (by omega)]
theorem occF_end {l p : List Str} {i : Nat} (h : ¬ i + p.length ≤ l.length) : occF l p i = [] := by
 unfold occF
 cases hn : l.length + 1 - i with
 | zero => rfl
 | succ n => rw [occ, if_neg h]
theorem occs_F {l p : List Str} (hp : 0 < p.length) : occs l p = occF l p 0 := by unfold occs occF; rw [if_neg (by omega)]; rfl
theorem zs_app (a b : List Nat) : zs (a ++ b) = zs a ++ zs b := by simp [zs]
theorem zs_len (a : List Nat) : (zs a).length = a.length := by simp [zs]
theorem occF_len (l p : List Str) (hp : 0 < p.length) : ∀ (n i : Nat), l.length + 1 - i ≤ n → (occF l p i).length + i ≤ max l.length i
 | 0, i, h => by rw [occF_end (by omega)]; simp; omega
 | n + 1, i, h => by
   by_cases h1 : i + p.length ≤ l.length
   · by_cases h2 : atB l p i = true
     · rw [occF_hit hp h1 h2]
       have := occF_len l p hp n (i + p.length) (by omega)
       simp only [List.length_cons]
       omega
     · rw [occF_miss hp h1 h2]
       have := occF_len l p hp n (i + 1) (by omega)
       omega
   · rw [occF_end h1]
     simp; omega
theorem findAll4_pc (l p : List Str) (hl : l.length ≤ 100000) (hpl : p.length ≤ 100000) : PC Try.prog env0 45 [.sl 1 (l.map IV.str), .sl 1 (p.map IV.str)] [.sl 1 (zs (occs l p))] := by
 have h1 : (l.map IV.str).length = l.length := List.length_map _
 have h2 : (p.map IV.str).length = p.length := List.length_map _
 by_cases hp : p.length = 0
 · unfold occs
   rw [if_pos hp]
   refine PC.of_va (T := tb0) eqs_ok tb_ok rfl mixed Try.func45 rfl rfl (Nat.le_of_ble_eq_true rfl) ?_; intro Γ C WK LP fin h0 hW hC hB hR hLP hfin
   (try (conv => whnf)); (repeat ((first | refine qT ?_ | refine qF ?_ | refine qO ?_ | (with_reducible intro z hz); (first | (replace hz := hz (by omega); subst hz) | subst hz)); (try (conv => whnf))))
   exact hfin _ (.cons (.nil 1) (.refl _))
 have hp0 : 0 < p.length := by omega
 rw [occs_F hp0]
 refine PC.of_va (T := tb0) eqs_ok tb_ok rfl mixed Try.func45 rfl rfl (Nat.le_of_ble_eq_true rfl) ?_; intro Γ C WK LP fin h0 hW hC hB hR hLP hfin
 (try (conv => whnf)); (repeat ((first | refine qT ?_ | refine qF ?_ | refine qO ?_ | (with_reducible intro z hz); (first | (replace hz := hz (by omega); subst hz) | subst hz)); (try (conv => whnf))))
 refine hLP _ _ _ (Nat × List Nat) (fun q => ⟨[(0, .imm (.sl 1 (l.map IV.str))), (1, .imm (.sl 1 (p.map IV.str))), (5, .row 0 1), (6, .imm (.int .i64 (q.1 : Nat)))], [.row 3 1 1 ((zs q.2).map .imm)]⟩) (fun q => q.2.length ≤ q.1 ∧ q.1 ≤ l.length + p.length ∧ occF l p 0 = q.2 ++ occF l p q.1) (fun q => l.length + p.length + 1 - q.1) (0, []) ⟨Nat.zero_le _, Nat.zero_le _, rfl⟩ ((WeakA.nilSlot 5 3 1 (Nat.le_of_ble_eq_true rfl) rfl).trans (((WeakA.row 0 ((zs []).map .imm) rfl (by simp [zs]))).trans (qSL 1 rfl rfl))) ?_
 rintro ⟨i, L⟩ ⟨hi, hil, hinv⟩
 dsimp only at hi hil hinv ⊢
 by_cases hlt : i + p.length ≤ l.length
 · have hE := equal_pc ((l.drop i).take p.length) p (by rw [List.length_take]; omega) (by omega)
   have hzl : ((zs L).map PV.imm).length = L.length := by rw [List.length_map, zs_len]
   have hzl2 : (zs L).length = L.length := zs_len L
   have hsub : List.take ((((i : Nat) : Int) + (((p.map IV.str).length : Nat) : Int)).toNat - ((i : Nat) : Int).toNat) (List.drop ((i : Nat) : Int).toNat (l.map IV.str)) = ((l.drop i).take p.length).map IV.str := by
     rw [h2, show (((i : Nat) : Int) + ((p.length : Nat) : Int)).toNat - ((i : Nat) : Int).toNat = p.length by omega, Int.toNat_natCast, List.map_take, List.map_drop]
   rw [← hsub] at hE
   by_cases ha : atB l p i = true
   · rw [show decide ((l.drop i).take p.length = p) = true from ha] at hE
     (try (conv => whnf)); (repeat ((first | refine qT ?_ | refine qF ?_ | refine qO ?_ | (with_reducible intro z hz); (first | (replace hz := hz (by omega); subst hz) | subst hz) | (refine CallV.mk _ (hC _ _ _ (PCw.of hE)) (fun js hjs => ?_); subst hjs)); (try (conv => whnf))))
     exact ⟨(i + p.length, L ++ [i]), ⟨by simp only [List.length_append, List.length_singleton]; omega, by dsimp only; omega, by rw [hinv, occF_hit hp0 hlt ha]; simp⟩, by dsimp only; omega, ((WeakA.row 0 ((zs (L ++ [i])).map .imm) rfl (by rw [zs_app]; simp [zs, zi]))).trans ((WeakA.renew 0 1 rfl (by first | omega | (intro _; rw [hk0 _ _ rfl]; exact Nat.le_of_ble_eq_true rfl)) (by repeat (first | exact trivial | refine And.intro (rgL_imms _ _ _ _) ?_ | refine And.intro rfl ?_))).trans (qSL 1 rfl rfl))⟩
   · rw [show decide ((l.drop i).take p.length = p) = false by unfold atB at ha; simpa using ha] at hE
     (try (conv => whnf)); (repeat ((first | refine qT ?_ | refine qF ?_ | refine qO ?_ | (with_reducible intro z hz); (first | (replace hz := hz (by omega); subst hz) | subst hz) | (refine CallV.mk _ (hC _ _ _ (PCw.of hE)) (fun js hjs => ?_); subst hjs)); (try (conv => whnf))))
     exact ⟨(i + 1, L), ⟨by dsimp only; omega, by dsimp only; omega, by rw [hinv, occF_miss hp0 hlt ha]⟩, by dsimp only; omega, (qSL 1 rfl rfl)⟩
 · rw [occF_end hlt, List.append_nil] at hinv
   (try (conv => whnf)); (repeat ((first | refine qT ?_ | refine qF ?_ | refine qO ?_ | (with_reducible intro z hz); (first | (replace hz := hz (by omega); subst hz) | subst hz)); (try (conv => whnf))))
   refine Imms.mk (zs (occF l p 0)) (by rw [hinv]) ?_
   exact hfin _ (ILes.refl _)
end Go.Proofs.Ytckamfmllkpafaa.Pw
