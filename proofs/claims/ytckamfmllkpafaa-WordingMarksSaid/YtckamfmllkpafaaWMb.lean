/-
  The library's Compact at references.
-/
import Derived.Test.YtckamfmllkpafaaWMa
namespace Go.Proofs.Ytckamfmllkpafaa.Pw
open Go Go.Pv Go.RowKit Go.Proofs.Ytckamfmllkpafaa.Pu Go.Proofs.Ytckamfmllkpafaa.Pb
set_option linter.unusedSimpArgs false
open Lab Lcs Go.Proofs.Ytckamfmllkpafaa
set_option maxRecDepth 10000
set_option maxHeartbeats 16000000
theorem at_some {L : List Rf} {k : Nat} (h : k < L.length) : ∃ x, L[k]? = some x := ⟨_, List.getElem?_eq_getElem h⟩
theorem ded_lt {L : List Rf} {j : Nat} (h : (ded (L.take j)).length < j) (h1 : 1 ≤ j) : ∀ d, j + d ≤ L.length → (ded (L.take (j + d))).length < j + d
 | 0, _ => h
 | d + 1, hd => by
   have ih := ded_lt h h1 d (by omega)
   obtain ⟨i, hi⟩ : ∃ i, j + d = i + 1 := ⟨j + d - 1, by omega⟩
   obtain ⟨x, hx⟩ := at_some (L := L) (k := i) (by omega)
   obtain ⟨y, hy⟩ := at_some (L := L) (k := i + 1) (by omega)
   rw [hi] at ih
   rw [← Nat.add_assoc, hi, ded_take hx hy]
   split
   · omega
   · rw [List.length_append, List.length_singleton]; omega
theorem ded_no {L : List Rf} (h : ded L = L) {k : Nat} {x y : Rf} (hx : L[k]? = some x) (hy : L[k + 1]? = some y) : x ≠ y := fun e => by
 have hk := (List.getElem?_eq_some_iff.1 hy).1
 have h1 := ded_take hx hy
 rw [if_pos e] at h1
 have h2 := cpk_le L (k + 1) (by omega)
 have h3 := ded_lt (L := L) (j := k + 2) (by rw [h1]; omega) (by omega) (L.length - (k + 2)) (by omega)
 rw [show k + 2 + (L.length - (k + 2)) = L.length by omega, List.take_length, h] at h3
 omega
abbrev rows (L : List Rf) : List PV := (L.map rfv).map .imm
theorem rows_len (L : List Rf) : (rows L).length = L.length := by simp
theorem rows_at {L : List Rf} {k : Nat} {x : Rf} (h : L[k]? = some x) : (rows L)[k]? = some (.imm (rfv x)) := by
 simp [rows, h]
theorem rows_at' {L : List Rf} {k z : Nat} {x : Rf} (h : L[k]? = some x) (e : z = k) : (rows L)[z]? = some (.imm (rfv x)) := by subst e; exact rows_at h
theorem clr_take {l : List PV} {d : Nat} (z : PV) (h : d ≤ l.length) : List.take d (l.take d ++ List.replicate (l.length - d) z ++ l.drop (d + (l.length - d))) = l.take d := by
 rw [List.append_assoc, List.take_append_of_le_length (by rw [List.length_take]; omega), List.take_take, Nat.min_self]
theorem clr_len {l : List PV} {d : Nat} (z : PV) (h : d ≤ l.length) : (l.take d ++ List.replicate (l.length - d) z ++ l.drop (d + (l.length - d))).length = l.length := by
 simp only [List.length_append, List.length_take, List.length_replicate, List.length_drop]; omega
theorem compact_pcb (L : List Rf) (hL : L.length ≤ 1000000) : PCB Try.prog env0 36 [.row 0 1] [.row 63 2 1 (rows L)] [.row 0 1] [.row 63 2 1 (rows (ded L))] ∨
   PCB Try.prog env0 36 [.row 0 1] [.row 63 2 1 (rows L)] [.row 0 2] [.row 63 2 2 (rows (ded L))] := by
 have hrl := rows_len L
 by_cases hlt : L.length < 2
 · left
   have e : ded L = L := by
     rcases L with _ | ⟨a, _ | ⟨b, l⟩⟩
     · rfl
     · rfl
     · simp only [List.length_cons] at hlt; omega
   rw [e]
   refine PCB.of_va (T := tbr) eqr_ok tbr_ok rfl mixed Try.func36 rfl rfl rfl (Nat.le_of_ble_eq_true rfl) rfl ?_; intro Γ C WK LP fin h0 hk0 hW hC hB hR hLP hfin
   (try (conv => whnf)); (repeat ((first | refine qT ?_ | refine qF ?_ | refine qO ?_ | (with_reducible intro z hz); (first | (replace hz := hz (by omega); subst hz) | subst hz)); (try (conv => whnf))))
   exact hfin _ (qSL 1 rfl rfl)
 by_cases hd : ded L = L
 · left
   rw [hd]
   refine PCB.of_va (T := tbr) eqr_ok tbr_ok rfl mixed Try.func36 rfl rfl rfl (Nat.le_of_ble_eq_true rfl) rfl ?_; intro Γ C WK LP fin h0 hk0 hW hC hB hR hLP hfin
   (try (conv => whnf)); (repeat ((first | refine qT ?_ | refine qF ?_ | refine qO ?_ | (with_reducible intro z hz); (first | (replace hz := hz (by omega); subst hz) | subst hz)); (try (conv => whnf))))
   refine hLP _ _ _ Nat (fun k => ⟨[(0, .row 0 1), (3, .imm (.int .i64 (k : Nat)))], [.row 63 2 1 (rows L)]⟩) (fun k => 1 ≤ k ∧ k ≤ L.length) (fun k => L.length - k) 1 ⟨by omega, by omega⟩ (qSL 1 rfl rfl) ?_
   rintro k ⟨hk1, hk⟩
   have hho := Nat.lt_or_ge k L.length
   cases hho with
   | inl hkl =>
     obtain ⟨i, rfl⟩ : ∃ i, k = i + 1 := ⟨k - 1, by omega⟩
     obtain ⟨x, hx⟩ := at_some (L := L) (k := i) (by omega)
     obtain ⟨y, hy⟩ := at_some (L := L) (k := i + 1) (by omega)
     have hi := rf_ne fun e : y = x => ded_no hd hx hy e.symm
     (try (conv => whnf)); (repeat ((first | refine qT ?_ | refine qF ?_ | refine qO ?_ | (with_reducible intro z hz); (first | (replace hz := hz (by omega); subst hz) | subst hz)); (try (conv => whnf))))
     refine Pos.mk (i + 1) rfl (by omega) ?_
     (try (conv => whnf)); (repeat ((first | refine qT ?_ | refine qF ?_ | refine qO ?_ | (with_reducible intro z hz); (first | (replace hz := hz (by omega); subst hz) | subst hz)); (try (conv => whnf))))
     refine At.mk (.imm (rfv y)) (rows_at hy) ?_
     (try (conv => whnf)); (repeat ((first | refine qT ?_ | refine qF ?_ | refine qO ?_ | (with_reducible intro z hz); (first | (replace hz := hz (by omega); subst hz) | subst hz)); (try (conv => whnf))))
     refine Pos.mk i (by omega) (by omega) ?_
     (try (conv => whnf)); (repeat ((first | refine qT ?_ | refine qF ?_ | refine qO ?_ | (with_reducible intro z hz); (first | (replace hz := hz (by omega); subst hz) | subst hz)); (try (conv => whnf))))
     refine At.mk (.imm (rfv x)) (rows_at hx) ?_
     (try (conv => whnf)); (repeat ((first | refine qT ?_ | refine qF ?_ | refine qO ?_ | (with_reducible intro z hz); (first | (replace hz := hz (by omega); subst hz) | subst hz)); (try (conv => whnf))))
     exact ⟨i + 1 + 1, ⟨by omega, by omega⟩, by dsimp only; omega, (qSL 1 rfl rfl)⟩
   | inr hge =>
     obtain rfl : k = L.length := by omega
     (try (conv => whnf)); (repeat ((first | refine qT ?_ | refine qF ?_ | refine qO ?_ | (with_reducible intro z hz); (first | (replace hz := hz (by omega); subst hz) | subst hz)); (try (conv => whnf))))
     exact hfin _ (qSL 1 rfl rfl)
 · right
   refine PCB.of_va (T := tbr) eqr_ok tbr_ok rfl mixed Try.func36 rfl rfl rfl (Nat.le_of_ble_eq_true rfl) rfl ?_; intro Γ C WK LP fin h0 hk0 hW hC hB hR hLP hfin
   (try (conv => whnf)); (repeat ((first | refine qT ?_ | refine qF ?_ | refine qO ?_ | (with_reducible intro z hz); (first | (replace hz := hz (by omega); subst hz) | subst hz)); (try (conv => whnf))))
   refine hLP _ _ _ Nat (fun k => ⟨[(0, .row 0 1), (3, .imm (.int .i64 (k : Nat)))], [.row 63 2 1 (rows L)]⟩) (fun k => 1 ≤ k ∧ k ≤ L.length ∧ ded (L.take k) = L.take k) (fun k => L.length - k) 1 ⟨by omega, by omega, ded_one L⟩ (qSL 1 rfl rfl) ?_
   rintro k ⟨hk1, hk, hdk⟩
   have hho := Nat.lt_or_ge k L.length
   cases hho with
   | inr hge =>
     exfalso
     rw [List.take_of_length_le hge] at hdk
     exact hd hdk
   | inl hkl =>
     obtain ⟨i, rfl⟩ : ∃ i, k = i + 1 := ⟨k - 1, by omega⟩
     obtain ⟨x, hx⟩ := at_some (L := L) (k := i) (by omega)
     obtain ⟨y, hy⟩ := at_some (L := L) (k := i + 1) (by omega)
     have hdt := ded_take hx hy
     by_cases hxy : x = y
     · have hi := rf_eq hxy.symm
       rw [if_pos hxy, hdk] at hdt
       have e0 : cpk L (i + 1 + 1) = L := by unfold cpk; rw [hdt, List.length_take, Nat.min_eq_left (by omega), List.take_append_drop]
       have e1 : (ded (L.take (i + 1 + 1))).length = i + 1 := by rw [hdt, List.length_take, Nat.min_eq_left (by omega)]
       (try (conv => whnf)); (repeat ((first | refine qT ?_ | refine qF ?_ | refine qO ?_ | (with_reducible intro z hz); (first | (replace hz := hz (by omega); subst hz) | subst hz)); (try (conv => whnf))))
       refine Pos.mk (i + 1) rfl (by omega) ?_
       (try (conv => whnf)); (repeat ((first | refine qT ?_ | refine qF ?_ | refine qO ?_ | (with_reducible intro z hz); (first | (replace hz := hz (by omega); subst hz) | subst hz)); (try (conv => whnf))))
       refine At.mk (.imm (rfv y)) (rows_at hy) ?_
       (try (conv => whnf)); (repeat ((first | refine qT ?_ | refine qF ?_ | refine qO ?_ | (with_reducible intro z hz); (first | (replace hz := hz (by omega); subst hz) | subst hz)); (try (conv => whnf))))
       refine Pos.mk i (by omega) (by omega) ?_
       (try (conv => whnf)); (repeat ((first | refine qT ?_ | refine qF ?_ | refine qO ?_ | (with_reducible intro z hz); (first | (replace hz := hz (by omega); subst hz) | subst hz)); (try (conv => whnf))))
       refine At.mk (.imm (rfv x)) (rows_at hx) ?_
       (try (conv => whnf)); (repeat ((first | refine qT ?_ | refine qF ?_ | refine qO ?_ | (with_reducible intro z hz); (first | (replace hz := hz (by omega); subst hz) | subst hz)); (try (conv => whnf))))
       refine hLP _ _ _ Nat (fun m => ⟨[(0, .row 0 1), (3, .imm (.int .i64 ((ded (L.take (i + 1 + m))).length : Nat))), (4, .sub 0 1 2 (i + 1) ((rows L).length - (i + 1))), (5, .imm (.int .i64 (m : Nat)))], [.row 63 2 1 (rows (cpk L (i + 1 + m)))]⟩) (fun m => 1 ≤ m ∧ i + 1 + m ≤ L.length ∧ (ded (L.take (i + 1 + m))).length < i + 1 + m) (fun m => L.length - m) 1 ⟨by omega, by omega, by omega⟩ ?_ ?_
       · dsimp only []
         rw [e0, e1]
         exact (qSL 1 rfl rfl)
       rintro m ⟨hm1, hm, hml⟩
       have hcl : (rows (cpk L (i + 1 + m))).length = L.length := by rw [rows_len, cpk_len L _ hm]
       have hho := Nat.lt_or_ge (i + 1 + m) L.length
       cases hho with
       | inl hml2 =>
         obtain ⟨j, hj⟩ : ∃ j, i + 1 + m = j + 1 := ⟨i + m, by omega⟩
         obtain ⟨u, hu⟩ := at_some (L := L) (k := j) (by omega)
         obtain ⟨v, hv⟩ := at_some (L := L) (k := j + 1) (by omega)
         have hau := cpk_at (j := i + 1 + m) (by omega) hu
         have hav := cpk_at (j := i + 1 + m) (by omega) hv
         by_cases huv : u = v
         · have hi2 := rf_eq huv.symm
           have hce := cpk_eq hu (huv ▸ hv)
           have hde := ded_take hu hv
           rw [if_pos huv] at hde
           rw [show j + 2 = i + 1 + (m + 1) by omega, ← hj] at hce hde
           (try (conv => whnf)); (repeat ((first | refine qT ?_ | refine qF ?_ | refine qO ?_ | (with_reducible intro z hz); (first | (replace hz := hz (by omega); subst hz) | subst hz)); (try (conv => whnf))))
           refine At.mk (.imm (rfv v)) (rows_at' hav (by omega)) ?_
           (try (conv => whnf)); (repeat ((first | refine qT ?_ | refine qF ?_ | refine qO ?_ | (with_reducible intro z hz); (first | (replace hz := hz (by omega); subst hz) | subst hz)); (try (conv => whnf))))
           refine At.mk (.imm (rfv u)) (rows_at' hau (by omega)) ?_
           (try (conv => whnf)); (repeat ((first | refine qT ?_ | refine qF ?_ | refine qO ?_ | (with_reducible intro z hz); (first | (replace hz := hz (by omega); subst hz) | subst hz)); (try (conv => whnf))))
           refine ⟨m + 1, ⟨by omega, by omega, by rw [hde]; omega⟩, by dsimp only; omega, ?_⟩
           dsimp only []
           rw [hce, hde]
           exact (qSL 1 rfl rfl)
         · have hi2 := rf_ne fun e : v = u => huv e.symm
           obtain ⟨hce, hde⟩ := cpk_ne hu hv huv
           rw [show j + 2 = i + 1 + (m + 1) by omega, ← hj] at hce hde
           (try (conv => whnf)); (repeat ((first | refine qT ?_ | refine qF ?_ | refine qO ?_ | (with_reducible intro z hz); (first | (replace hz := hz (by omega); subst hz) | subst hz)); (try (conv => whnf))))
           refine At.mk (.imm (rfv v)) (rows_at' hav (by omega)) ?_
           (try (conv => whnf)); (repeat ((first | refine qT ?_ | refine qF ?_ | refine qO ?_ | (with_reducible intro z hz); (first | (replace hz := hz (by omega); subst hz) | subst hz)); (try (conv => whnf))))
           refine At.mk (.imm (rfv u)) (rows_at' hau (by omega)) ?_
           (try (conv => whnf)); (repeat ((first | refine qT ?_ | refine qF ?_ | refine qO ?_ | (with_reducible intro z hz); (first | (replace hz := hz (by omega); subst hz) | subst hz)); (try (conv => whnf))))
           refine At.mk (.imm (rfv v)) (rows_at' hav (by omega)) ?_
           (try (conv => whnf)); (repeat ((first | refine qT ?_ | refine qF ?_ | refine qO ?_ | (with_reducible intro z hz); (first | (replace hz := hz (by omega); subst hz) | subst hz)); (try (conv => whnf))))
           refine Pos.mk (ded (L.take (i + 1 + m))).length rfl (by omega) ?_
           (try (conv => whnf)); (repeat ((first | refine qT ?_ | refine qF ?_ | refine qO ?_ | (with_reducible intro z hz); (first | (replace hz := hz (by omega); subst hz) | subst hz)); (try (conv => whnf))))
           obtain ⟨q, hq⟩ := at_some (L := L) (k := (ded (L.take (i + 1 + m))).length) (by omega)
           refine At.mk (.imm (rfv q)) (rows_at (cpk_at (Nat.le_refl _) hq)) ?_
           (try (conv => whnf)); (repeat ((first | refine qT ?_ | refine qF ?_ | refine qO ?_ | (with_reducible intro z hz); (first | (replace hz := hz (by omega); subst hz) | subst hz)); (try (conv => whnf))))
           refine ⟨m + 1, ⟨by omega, by omega, by omega⟩, by dsimp only; omega, ?_⟩
           dsimp only []
           rw [show (((ded (L.take (i + 1 + (m + 1)))).length : Nat) : Int) = ((ded (L.take (i + 1 + m))).length : Nat) + 1 by omega]
           exact ((WeakA.row 0 (rows (cpk L (i + 1 + (m + 1)))) rfl (by rw [hce]; simp [rows, List.map_set]; rfl))).trans (qSL 1 rfl rfl)
       | inr hge =>
         have hmn : i + 1 + m = L.length := by omega
         have hfl : ded (L.take (i + 1 + m)) = ded L := by rw [hmn, List.take_length]
         have hdl : (ded L).length ≤ (rows (cpk L (i + 1 + m))).length := by rw [← hfl]; omega
         have hcr : (rows (cpk L (i + 1 + m))).take (ded L).length = rows (ded L) := by
           unfold cpk
           rw [hfl]
           simp only [rows]
           rw [← List.map_take, ← List.map_take, List.take_left]
         rw [hfl]
         (try (conv => whnf)); (repeat ((first | refine qT ?_ | refine qF ?_ | refine qO ?_ | (with_reducible intro z hz); (first | (replace hz := hz (by omega); subst hz) | subst hz)); (try (conv => whnf))))
         refine Owe.mk ⟨Int.natCast_nonneg _, Int.ofNat_le.2 (Nat.le_trans hdl (Nat.le_of_eq (clr_len _ hdl).symm))⟩ ?_
         intro es' he
         obtain rfl : es' = rows (ded L) := he.trans ((clr_take _ hdl).trans hcr)
         clear he
         (try (conv => whnf)); (repeat ((first | refine qT ?_ | refine qF ?_ | refine qO ?_ | (with_reducible intro z hz); (first | (replace hz := hz (by omega); subst hz) | subst hz)); (try (conv => whnf))))
         exact hfin _ (qSL 1 rfl rfl)
     · have hi := rf_ne fun e : y = x => hxy e.symm
       (try (conv => whnf)); (repeat ((first | refine qT ?_ | refine qF ?_ | refine qO ?_ | (with_reducible intro z hz); (first | (replace hz := hz (by omega); subst hz) | subst hz)); (try (conv => whnf))))
       refine Pos.mk (i + 1) rfl (by omega) ?_
       (try (conv => whnf)); (repeat ((first | refine qT ?_ | refine qF ?_ | refine qO ?_ | (with_reducible intro z hz); (first | (replace hz := hz (by omega); subst hz) | subst hz)); (try (conv => whnf))))
       refine At.mk (.imm (rfv y)) (rows_at hy) ?_
       (try (conv => whnf)); (repeat ((first | refine qT ?_ | refine qF ?_ | refine qO ?_ | (with_reducible intro z hz); (first | (replace hz := hz (by omega); subst hz) | subst hz)); (try (conv => whnf))))
       refine Pos.mk i (by omega) (by omega) ?_
       (try (conv => whnf)); (repeat ((first | refine qT ?_ | refine qF ?_ | refine qO ?_ | (with_reducible intro z hz); (first | (replace hz := hz (by omega); subst hz) | subst hz)); (try (conv => whnf))))
       refine At.mk (.imm (rfv x)) (rows_at hx) ?_
       (try (conv => whnf)); (repeat ((first | refine qT ?_ | refine qF ?_ | refine qO ?_ | (with_reducible intro z hz); (first | (replace hz := hz (by omega); subst hz) | subst hz)); (try (conv => whnf))))
       exact ⟨i + 1 + 1, ⟨by omega, by omega, by rw [if_neg hxy, hdk, ← take_at hy] at hdt; exact hdt⟩, by dsimp only; omega, (qSL 1 rfl rfl)⟩
end Go.Proofs.Ytckamfmllkpafaa.Pw
