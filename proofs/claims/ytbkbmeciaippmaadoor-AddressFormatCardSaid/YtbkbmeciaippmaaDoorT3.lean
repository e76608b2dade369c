/-
  short, whatever came in. AddressFormat, AddressParse as calls of plain values.
-/
import Derived.Test.YtbkbmeciaippmaaDoorR5
import Derived.Test.YtbkbmeciaippmaaDoorT1
import Derived.Test.YtbkbmeciaippmaaDoorT2
namespace Go.Proofs.YtbkbmeciaippmaaDoor.Pa
open Go Go.Pv Go.Proofs.YtbkbmeciaippmaaDoor.Pu
set_option linter.unusedSimpArgs false
open Lab Lcs Go.Proofs.YtbkbmeciaippmaaDoor Go.RowKit
set_option maxRecDepth 10000
set_option maxHeartbeats 16000000
theorem shortL_pc (p : List Stp) (hpl : p.length ≤ 9223372036854775807) : PC Tryd.prog envU 42 [.sl 2 (p.map spv)] [.bool (p.all (fun s => decide (s.label.size ≤ 100)) && decide (p.length ≤ 20))] := by
  have hml : (p.map spv).length = p.length := List.length_map _
  refine PC.of_va (T := tb0) eqs2_ok tb_ok rfl mixed Tryd.func42 rfl rfl (Nat.le_of_ble_eq_true rfl) ?_; intro Γ C WK LP fin h0 hW hC hB hR hLP hfin
  (try (conv => whnf)); (repeat ((first | (with_reducible refine Fork.T (fun hc => ?_) ?_); (exfalso; first | omega | (simp [eqC, cellsI, idv, idl] at hc; first | done | omega) | contradiction) | (with_reducible refine Fork.F (fun hc => ?_) ?_); (exfalso; first | omega | (simp [eqC, cellsI, idv, idl] at hc; first | done | omega) | contradiction) | (with_reducible refine Owe.mk ?_ ?_); (first | omega | (unfold most; omega) | decide +kernel | exact Nat.le_of_ble_eq_true rfl | assumption | (simp [most]; omega)) | (with_reducible intro z hz); (first | (replace hz := hz (by omega); subst hz) | subst hz)); (try (conv => whnf))))
  refine hLP _ _ _ Nat (fun k => ⟨[(0, .imm (.sl 2 (p.map spv))), (3, .imm (.int .i64 (k : Nat)))], []⟩) (fun k => k ≤ p.length ∧ (p.take k).all (fun s => decide (s.label.size ≤ 100)) = true) (fun k => p.length - k) 0 ⟨Nat.zero_le _, rfl⟩ (WeakA.slots 0 (by first | omega | (rw [h0]; exact Nat.le_of_ble_eq_true rfl)) rfl rfl (by first | (simp only [List.all_cons, List.all_nil, blkBelow, belowL_imm, belowL, belowB, Bool.and_true, Bool.true_and]; first | done | decide) | rfl | simp [blkBelow, belowB, belowL, belowL_imm]) (by (repeat ((conv => whnf); first | exact trivial | refine And.intro (by first | exact WkOne.any | exact WkOne.eq (by with_reducible rfl) rfl | exact WkOne.int (by first | omega | (simp; first | done | omega)) | exact WkOne.eq rfl rfl | exact WkOne.le rfl (ILe.nil _)) ?_)))) ?_
  rintro k ⟨hk, hpre⟩
  by_cases hlt : k < p.length
  · obtain ⟨s, hx⟩ := at_k hlt
    by_cases h : s.label.size ≤ 100
    · (try (conv => whnf)); (repeat ((first | (with_reducible refine Fork.T (fun hc => ?_) ?_); (exfalso; first | omega | (simp [eqC, cellsI, idv, idl] at hc; first | done | omega) | contradiction) | (with_reducible refine Fork.F (fun hc => ?_) ?_); (exfalso; first | omega | (simp [eqC, cellsI, idv, idl] at hc; first | done | omega) | contradiction) | (with_reducible refine Owe.mk ?_ ?_); (first | omega | (unfold most; omega) | decide +kernel | exact Nat.le_of_ble_eq_true rfl | assumption | (simp [most]; omega)) | (with_reducible intro z hz); (first | (replace hz := hz (by omega); subst hz) | subst hz)); (try (conv => whnf))))
      refine Idx.mk k (spv s) _ rfl (by simp [hx]) rfl ?_
      (try (conv => whnf)); (repeat ((first | (with_reducible refine Fork.T (fun hc => ?_) ?_); (exfalso; first | omega | (simp [eqC, cellsI, idv, idl] at hc; first | done | omega) | contradiction) | (with_reducible refine Fork.F (fun hc => ?_) ?_); (exfalso; first | omega | (simp [eqC, cellsI, idv, idl] at hc; first | done | omega) | contradiction) | (with_reducible refine Owe.mk ?_ ?_); (first | omega | (unfold most; omega) | decide +kernel | exact Nat.le_of_ble_eq_true rfl | assumption | (simp [most]; omega)) | (with_reducible intro z hz); (first | (replace hz := hz (by omega); subst hz) | subst hz)); (try (conv => whnf))))
      exact ⟨k + 1, ⟨by omega, by rw [List.take_add_one, hx, List.all_append, hpre]; simp [h]⟩, by dsimp only; omega, (WeakA.slots 0 (by first | omega | (rw [h0]; exact Nat.le_of_ble_eq_true rfl)) rfl rfl (by first | (simp only [List.all_cons, List.all_nil, blkBelow, belowL_imm, belowL, belowB, Bool.and_true, Bool.true_and]; first | done | decide) | rfl | simp [blkBelow, belowB, belowL, belowL_imm]) (by (repeat ((conv => whnf); first | exact trivial | refine And.intro (by first | exact WkOne.any | exact WkOne.eq (by with_reducible rfl) rfl | exact WkOne.int (by first | omega | (simp; first | done | omega)) | exact WkOne.eq rfl rfl | exact WkOne.le rfl (ILe.nil _)) ?_))))⟩
    · (try (conv => whnf)); (repeat ((first | (with_reducible refine Fork.T (fun hc => ?_) ?_); (exfalso; first | omega | (simp [eqC, cellsI, idv, idl] at hc; first | done | omega) | contradiction) | (with_reducible refine Fork.F (fun hc => ?_) ?_); (exfalso; first | omega | (simp [eqC, cellsI, idv, idl] at hc; first | done | omega) | contradiction) | (with_reducible refine Owe.mk ?_ ?_); (first | omega | (unfold most; omega) | decide +kernel | exact Nat.le_of_ble_eq_true rfl | assumption | (simp [most]; omega)) | (with_reducible intro z hz); (first | (replace hz := hz (by omega); subst hz) | subst hz)); (try (conv => whnf))))
      refine Idx.mk k (spv s) _ rfl (by simp [hx]) rfl ?_
      (try (conv => whnf)); (repeat ((first | (with_reducible refine Fork.T (fun hc => ?_) ?_); (exfalso; first | omega | (simp [eqC, cellsI, idv, idl] at hc; first | done | omega) | contradiction) | (with_reducible refine Fork.F (fun hc => ?_) ?_); (exfalso; first | omega | (simp [eqC, cellsI, idv, idl] at hc; first | done | omega) | contradiction) | (with_reducible refine Owe.mk ?_ ?_); (first | omega | (unfold most; omega) | decide +kernel | exact Nat.le_of_ble_eq_true rfl | assumption | (simp [most]; omega)) | (with_reducible intro z hz); (first | (replace hz := hz (by omega); subst hz) | subst hz)); (try (conv => whnf))))
      have : (p.all fun s => decide (s.label.size ≤ 100)) = false := by
        rw [List.all_eq_false]
        exact ⟨s, List.mem_of_getElem? hx, by simpa using h⟩
      rw [this] at hfin
      exact hfin _ (ILes.refl _)
  · obtain rfl : k = p.length := by omega
    rw [List.take_length] at hpre
    rw [hpre] at hfin
    by_cases h : p.length ≤ 20
    · rw [decide_eq_true h] at hfin
      (try (conv => whnf)); (repeat ((first | (with_reducible refine Fork.T (fun hc => ?_) ?_); (exfalso; first | omega | (simp [eqC, cellsI, idv, idl] at hc; first | done | omega) | contradiction) | (with_reducible refine Fork.F (fun hc => ?_) ?_); (exfalso; first | omega | (simp [eqC, cellsI, idv, idl] at hc; first | done | omega) | contradiction) | (with_reducible refine Owe.mk ?_ ?_); (first | omega | (unfold most; omega) | decide +kernel | exact Nat.le_of_ble_eq_true rfl | assumption | (simp [most]; omega)) | (with_reducible intro z hz); (first | (replace hz := hz (by omega); subst hz) | subst hz)); (try (conv => whnf))))
      exact hfin _ (ILes.refl _)
    · rw [decide_eq_false h] at hfin
      (try (conv => whnf)); (repeat ((first | (with_reducible refine Fork.T (fun hc => ?_) ?_); (exfalso; first | omega | (simp [eqC, cellsI, idv, idl] at hc; first | done | omega) | contradiction) | (with_reducible refine Fork.F (fun hc => ?_) ?_); (exfalso; first | omega | (simp [eqC, cellsI, idv, idl] at hc; first | done | omega) | contradiction) | (with_reducible refine Owe.mk ?_ ?_); (first | omega | (unfold most; omega) | decide +kernel | exact Nat.le_of_ble_eq_true rfl | assumption | (simp [most]; omega)) | (with_reducible intro z hz); (first | (replace hz := hz (by omega); subst hz) | subst hz)); (try (conv => whnf))))
      exact hfin _ (ILes.refl _)
end Go.Proofs.YtbkbmeciaippmaaDoor.Pa

namespace Go.Proofs.YtbkbmeciaippmaaDoor.Pa
open Go Go.Pv Go.Proofs.YtbkbmeciaippmaaDoor.Pu
set_option linter.unusedSimpArgs false
open Lab Lcs Go.Proofs.YtbkbmeciaippmaaDoor Go.RowKit
set_option maxRecDepth 10000
set_option maxHeartbeats 16000000
theorem short_label {p : List Stp} (h : shortB p = true) : ∀ s ∈ p, s.label.size ≤ 100 := fun s hs => by
  unfold shortB at h
  simp only [Bool.and_eq_true, decide_eq_true_eq, List.all_eq_true] at h
  exact h.1 s hs
theorem words_100 {p : List Stp} (hp : ∀ s ∈ p, s.label.size ≤ 100) : ∀ w ∈ wordsA p, w.size ≤ 100 := by
  intro w hw
  unfold wordsA at hw
  obtain ⟨s, hs, hw⟩ := List.mem_flatMap.1 hw
  have h1 := name_le s.kind
  unfold stepWords at hw
  split at hw
  · rw [List.mem_singleton] at hw; subst hw; omega
  · rcases List.mem_cons.1 hw with rfl | hw
    · omega
    · rw [List.mem_singleton] at hw; subst hw; exact hp s hs
theorem tail_mem : ∀ {L : List (List UInt8)} {w : List UInt8}, w ∈ L → w.length ≤ (Lib.joinTail [32] L).length
  | [], _, h => by cases h
  | x :: L, w, h => by
    have h3 : Lib.joinTail [32] (x :: L) = [32] ++ x ++ Lib.joinTail [32] L := by simp [Lib.joinTail]
    rw [h3]
    simp only [List.length_append]
    rcases List.mem_cons.1 h with rfl | h
    · omega
    · have := tail_mem h; omega
theorem joinB_mem {L : List Str} {w : Str} (h : w ∈ L) : w.size ≤ (joinB L).length := by
  have hl : w.data.toList.length = w.size := Array.length_toList
  unfold joinB
  cases L with
  | nil => cases h
  | cons x L =>
    rw [List.map_cons, Lib.join_cons, List.length_append]
    rcases List.mem_cons.1 h with rfl | h
    · omega
    · have := tail_mem (List.mem_map.2 ⟨w, h, rfl⟩ : w.data.toList ∈ L.map (·.data.toList))
      omega
theorem label_in {p : List Stp} {t : Stp} (h : t ∈ p) : t.label.size ≤ (joinB (wordsA p)).length := by
  by_cases hb : bookB t = true
  · unfold bookB at hb
    simp only [Bool.and_eq_true, decide_eq_true_eq] at hb
    rw [hb.2]
    exact Nat.zero_le _
  · refine joinB_mem (List.mem_flatMap.2 ⟨t, h, ?_⟩)
    unfold stepWords
    rw [if_neg hb]
    simp
theorem lawFormat (p : List Stp) (hp : p.length ≤ maxLen ∧ ∀ s ∈ p, inI s.kind ∧ s.label.size ≤ maxLen) : PC Tryd.prog envP 9 [.sl 2 (p.map spv)] [.bool true] := by
  have hA := upP awake_pc
  have hS := upP (shortL_pc p (by have := hp.1; unfold maxLen at this; omega))
  change PC _ _ _ _ [.bool (shortB p)] at hS
  cases hs : shortB p with
  | false =>
    rw [hs] at hS
    refine PC.of_va (T := tb0) eqs2_ok tb_ok rfl mixed Tryd.func9 rfl rfl (Nat.le_of_ble_eq_true rfl) ?_; intro Γ C WK LP fin h0 hW hC hB hR hLP hfin
    (try (conv => whnf)); (repeat ((first | (with_reducible refine Fork.T (fun hc => ?_) ?_); (exfalso; first | omega | (simp [eqC, cellsI, idv, idl] at hc; first | done | omega) | contradiction) | (with_reducible refine Fork.F (fun hc => ?_) ?_); (exfalso; first | omega | (simp [eqC, cellsI, idv, idl] at hc; first | done | omega) | contradiction) | (with_reducible refine Owe.mk ?_ ?_); (first | omega | (unfold most; omega) | decide +kernel | exact Nat.le_of_ble_eq_true rfl | assumption | (simp [most]; omega)) | (with_reducible intro z hz); (first | (replace hz := hz (by omega); subst hz) | subst hz)); (try (conv => whnf))))
    refine CallV.mk _ (hC _ _ _ (PCw.of (hA))) (fun js hjs => ?_); subst hjs
    (try (conv => whnf)); (repeat ((first | (with_reducible refine Fork.T (fun hc => ?_) ?_); (exfalso; first | omega | (simp [eqC, cellsI, idv, idl] at hc; first | done | omega) | contradiction) | (with_reducible refine Fork.F (fun hc => ?_) ?_); (exfalso; first | omega | (simp [eqC, cellsI, idv, idl] at hc; first | done | omega) | contradiction) | (with_reducible refine Owe.mk ?_ ?_); (first | omega | (unfold most; omega) | decide +kernel | exact Nat.le_of_ble_eq_true rfl | assumption | (simp [most]; omega)) | (with_reducible intro z hz); (first | (replace hz := hz (by omega); subst hz) | subst hz)); (try (conv => whnf))))
    refine CallV.mk _ (hC _ _ _ (PCw.of (hS))) (fun js hjs => ?_); subst hjs
    (try (conv => whnf)); (repeat ((first | (with_reducible refine Fork.T (fun hc => ?_) ?_); (exfalso; first | omega | (simp [eqC, cellsI, idv, idl] at hc; first | done | omega) | contradiction) | (with_reducible refine Fork.F (fun hc => ?_) ?_); (exfalso; first | omega | (simp [eqC, cellsI, idv, idl] at hc; first | done | omega) | contradiction) | (with_reducible refine Owe.mk ?_ ?_); (first | omega | (unfold most; omega) | decide +kernel | exact Nat.le_of_ble_eq_true rfl | assumption | (simp [most]; omega)) | (with_reducible intro z hz); (first | (replace hz := hz (by omega); subst hz) | subst hz)); (try (conv => whnf))))
    refine CallV.mk _ (hC _ _ _ (PCw.of (hA))) (fun js hjs => ?_); subst hjs
    (try (conv => whnf)); (repeat ((first | (with_reducible refine Fork.T (fun hc => ?_) ?_); (exfalso; first | omega | (simp [eqC, cellsI, idv, idl] at hc; first | done | omega) | contradiction) | (with_reducible refine Fork.F (fun hc => ?_) ?_); (exfalso; first | omega | (simp [eqC, cellsI, idv, idl] at hc; first | done | omega) | contradiction) | (with_reducible refine Owe.mk ?_ ?_); (first | omega | (unfold most; omega) | decide +kernel | exact Nat.le_of_ble_eq_true rfl | assumption | (simp [most]; omega)) | (with_reducible intro z hz); (first | (replace hz := hz (by omega); subst hz) | subst hz)); (try (conv => whnf))))
    exact hfin _ (ILes.refl _)
  | true =>
    rw [hs] at hS
    obtain ⟨hps, hpl⟩ := shortB_facts hs
    have h1 := upP (format_pc p hps)
    have h2 := upP (avalid_pc p hps)
    have h3 := upP (rmay_pc p hps)
    have h4 := upP (text_pc p hps)
    cases hm : mayA p with
    | false =>
      rw [hm] at h2 h3
      have ht : textA p = ⟨#[]⟩ := by unfold textA; rw [hm]; rfl
      rw [ht] at h1 h4
      refine PC.of_va (T := tb0) eqs2_ok tb_ok rfl mixed Tryd.func9 rfl rfl (Nat.le_of_ble_eq_true rfl) ?_; intro Γ C WK LP fin h0 hW hC hB hR hLP hfin
      (try (conv => whnf)); (repeat ((first | (with_reducible refine Fork.T (fun hc => ?_) ?_); (exfalso; first | omega | (simp [eqC, cellsI, idv, idl] at hc; first | done | omega) | contradiction) | (with_reducible refine Fork.F (fun hc => ?_) ?_); (exfalso; first | omega | (simp [eqC, cellsI, idv, idl] at hc; first | done | omega) | contradiction) | (with_reducible refine Owe.mk ?_ ?_); (first | omega | (unfold most; omega) | decide +kernel | exact Nat.le_of_ble_eq_true rfl | assumption | (simp [most]; omega)) | (with_reducible intro z hz); (first | (replace hz := hz (by omega); subst hz) | subst hz)); (try (conv => whnf))))
      refine CallV.mk _ (hC _ _ _ (PCw.of (hA))) (fun js hjs => ?_); subst hjs
      (try (conv => whnf)); (repeat ((first | (with_reducible refine Fork.T (fun hc => ?_) ?_); (exfalso; first | omega | (simp [eqC, cellsI, idv, idl] at hc; first | done | omega) | contradiction) | (with_reducible refine Fork.F (fun hc => ?_) ?_); (exfalso; first | omega | (simp [eqC, cellsI, idv, idl] at hc; first | done | omega) | contradiction) | (with_reducible refine Owe.mk ?_ ?_); (first | omega | (unfold most; omega) | decide +kernel | exact Nat.le_of_ble_eq_true rfl | assumption | (simp [most]; omega)) | (with_reducible intro z hz); (first | (replace hz := hz (by omega); subst hz) | subst hz)); (try (conv => whnf))))
      refine CallV.mk _ (hC _ _ _ (PCw.of (hS))) (fun js hjs => ?_); subst hjs
      (try (conv => whnf)); (repeat ((first | (with_reducible refine Fork.T (fun hc => ?_) ?_); (exfalso; first | omega | (simp [eqC, cellsI, idv, idl] at hc; first | done | omega) | contradiction) | (with_reducible refine Fork.F (fun hc => ?_) ?_); (exfalso; first | omega | (simp [eqC, cellsI, idv, idl] at hc; first | done | omega) | contradiction) | (with_reducible refine Owe.mk ?_ ?_); (first | omega | (unfold most; omega) | decide +kernel | exact Nat.le_of_ble_eq_true rfl | assumption | (simp [most]; omega)) | (with_reducible intro z hz); (first | (replace hz := hz (by omega); subst hz) | subst hz)); (try (conv => whnf))))
      refine CallV.mk _ (hC _ _ _ (PCw.of (h1))) (fun js hjs => ?_); subst hjs
      (try (conv => whnf)); (repeat ((first | (with_reducible refine Fork.T (fun hc => ?_) ?_); (exfalso; first | omega | (simp [eqC, cellsI, idv, idl] at hc; first | done | omega) | contradiction) | (with_reducible refine Fork.F (fun hc => ?_) ?_); (exfalso; first | omega | (simp [eqC, cellsI, idv, idl] at hc; first | done | omega) | contradiction) | (with_reducible refine Owe.mk ?_ ?_); (first | omega | (unfold most; omega) | decide +kernel | exact Nat.le_of_ble_eq_true rfl | assumption | (simp [most]; omega)) | (with_reducible intro z hz); (first | (replace hz := hz (by omega); subst hz) | subst hz)); (try (conv => whnf))))
      refine CallV.mk _ (hC _ _ _ (PCw.of (h2))) (fun js hjs => ?_); subst hjs
      (try (conv => whnf)); (repeat ((first | (with_reducible refine Fork.T (fun hc => ?_) ?_); (exfalso; first | omega | (simp [eqC, cellsI, idv, idl] at hc; first | done | omega) | contradiction) | (with_reducible refine Fork.F (fun hc => ?_) ?_); (exfalso; first | omega | (simp [eqC, cellsI, idv, idl] at hc; first | done | omega) | contradiction) | (with_reducible refine Owe.mk ?_ ?_); (first | omega | (unfold most; omega) | decide +kernel | exact Nat.le_of_ble_eq_true rfl | assumption | (simp [most]; omega)) | (with_reducible intro z hz); (first | (replace hz := hz (by omega); subst hz) | subst hz)); (try (conv => whnf))))
      refine CallV.mk _ (hC _ _ _ (PCw.of (h3))) (fun js hjs => ?_); subst hjs
      (try (conv => whnf)); (repeat ((first | (with_reducible refine Fork.T (fun hc => ?_) ?_); (exfalso; first | omega | (simp [eqC, cellsI, idv, idl] at hc; first | done | omega) | contradiction) | (with_reducible refine Fork.F (fun hc => ?_) ?_); (exfalso; first | omega | (simp [eqC, cellsI, idv, idl] at hc; first | done | omega) | contradiction) | (with_reducible refine Owe.mk ?_ ?_); (first | omega | (unfold most; omega) | decide +kernel | exact Nat.le_of_ble_eq_true rfl | assumption | (simp [most]; omega)) | (with_reducible intro z hz); (first | (replace hz := hz (by omega); subst hz) | subst hz)); (try (conv => whnf))))
      refine CallV.mk _ (hC _ _ _ (PCw.of (h4))) (fun js hjs => ?_); subst hjs
      (try (conv => whnf)); (repeat ((first | (with_reducible refine Fork.T (fun hc => ?_) ?_); (exfalso; first | omega | (simp [eqC, cellsI, idv, idl] at hc; first | done | omega) | contradiction) | (with_reducible refine Fork.F (fun hc => ?_) ?_); (exfalso; first | omega | (simp [eqC, cellsI, idv, idl] at hc; first | done | omega) | contradiction) | (with_reducible refine Owe.mk ?_ ?_); (first | omega | (unfold most; omega) | decide +kernel | exact Nat.le_of_ble_eq_true rfl | assumption | (simp [most]; omega)) | (with_reducible intro z hz); (first | (replace hz := hz (by omega); subst hz) | subst hz)); (try (conv => whnf))))
      refine CallV.mk _ (hC _ _ _ (PCw.of (h2))) (fun js hjs => ?_); subst hjs
      (try (conv => whnf)); (repeat ((first | (with_reducible refine Fork.T (fun hc => ?_) ?_); (exfalso; first | omega | (simp [eqC, cellsI, idv, idl] at hc; first | done | omega) | contradiction) | (with_reducible refine Fork.F (fun hc => ?_) ?_); (exfalso; first | omega | (simp [eqC, cellsI, idv, idl] at hc; first | done | omega) | contradiction) | (with_reducible refine Owe.mk ?_ ?_); (first | omega | (unfold most; omega) | decide +kernel | exact Nat.le_of_ble_eq_true rfl | assumption | (simp [most]; omega)) | (with_reducible intro z hz); (first | (replace hz := hz (by omega); subst hz) | subst hz)); (try (conv => whnf))))
      exact hfin _ (ILes.refl _)
    | true =>
      rw [hm] at h2 h3
      have hl9 := (mayA_iff.1 hm).1
      have hsz : (textA p).size ≤ 1000000 := by
        unfold textA
        rw [if_pos hm, mkB_size]
        have h7 := joinB_le (words_100 (short_label hs))
        have h8 := words_le p
        have h9 : (wordsA p).length * (100 + 1) ≤ 18 * 101 := Nat.mul_le_mul (by omega) (Nat.le_refl _)
        omega
      have h5 := parse_pc (textA p) hsz
      rw [refQ_of hm rfl] at h5
      have h6 := upP (same7_pc p p (by omega))
      rw [decide_eq_true rfl] at h6
      change PC _ _ _ _ [.sl 2 (p.map spv), .int .i64 0] at h5
      generalize textA p = t at h1 h4 h5
      refine PC.of_va (T := tb0) eqs2_ok tb_ok rfl mixed Tryd.func9 rfl rfl (Nat.le_of_ble_eq_true rfl) ?_; intro Γ C WK LP fin h0 hW hC hB hR hLP hfin
      (try (conv => whnf)); (repeat ((first | (with_reducible refine Fork.T (fun hc => ?_) ?_); (exfalso; first | omega | (simp [eqC, cellsI, idv, idl] at hc; first | done | omega) | contradiction) | (with_reducible refine Fork.F (fun hc => ?_) ?_); (exfalso; first | omega | (simp [eqC, cellsI, idv, idl] at hc; first | done | omega) | contradiction) | (with_reducible refine Owe.mk ?_ ?_); (first | omega | (unfold most; omega) | decide +kernel | exact Nat.le_of_ble_eq_true rfl | assumption | (simp [most]; omega)) | (with_reducible intro z hz); (first | (replace hz := hz (by omega); subst hz) | subst hz)); (try (conv => whnf))))
      refine CallV.mk _ (hC _ _ _ (PCw.of (hA))) (fun js hjs => ?_); subst hjs
      (try (conv => whnf)); (repeat ((first | (with_reducible refine Fork.T (fun hc => ?_) ?_); (exfalso; first | omega | (simp [eqC, cellsI, idv, idl] at hc; first | done | omega) | contradiction) | (with_reducible refine Fork.F (fun hc => ?_) ?_); (exfalso; first | omega | (simp [eqC, cellsI, idv, idl] at hc; first | done | omega) | contradiction) | (with_reducible refine Owe.mk ?_ ?_); (first | omega | (unfold most; omega) | decide +kernel | exact Nat.le_of_ble_eq_true rfl | assumption | (simp [most]; omega)) | (with_reducible intro z hz); (first | (replace hz := hz (by omega); subst hz) | subst hz)); (try (conv => whnf))))
      refine CallV.mk _ (hC _ _ _ (PCw.of (hS))) (fun js hjs => ?_); subst hjs
      (try (conv => whnf)); (repeat ((first | (with_reducible refine Fork.T (fun hc => ?_) ?_); (exfalso; first | omega | (simp [eqC, cellsI, idv, idl] at hc; first | done | omega) | contradiction) | (with_reducible refine Fork.F (fun hc => ?_) ?_); (exfalso; first | omega | (simp [eqC, cellsI, idv, idl] at hc; first | done | omega) | contradiction) | (with_reducible refine Owe.mk ?_ ?_); (first | omega | (unfold most; omega) | decide +kernel | exact Nat.le_of_ble_eq_true rfl | assumption | (simp [most]; omega)) | (with_reducible intro z hz); (first | (replace hz := hz (by omega); subst hz) | subst hz)); (try (conv => whnf))))
      refine CallV.mk _ (hC _ _ _ (PCw.of (h1))) (fun js hjs => ?_); subst hjs
      (try (conv => whnf)); (repeat ((first | (with_reducible refine Fork.T (fun hc => ?_) ?_); (exfalso; first | omega | (simp [eqC, cellsI, idv, idl] at hc; first | done | omega) | contradiction) | (with_reducible refine Fork.F (fun hc => ?_) ?_); (exfalso; first | omega | (simp [eqC, cellsI, idv, idl] at hc; first | done | omega) | contradiction) | (with_reducible refine Owe.mk ?_ ?_); (first | omega | (unfold most; omega) | decide +kernel | exact Nat.le_of_ble_eq_true rfl | assumption | (simp [most]; omega)) | (with_reducible intro z hz); (first | (replace hz := hz (by omega); subst hz) | subst hz)); (try (conv => whnf))))
      refine CallV.mk _ (hC _ _ _ (PCw.of (h2))) (fun js hjs => ?_); subst hjs
      (try (conv => whnf)); (repeat ((first | (with_reducible refine Fork.T (fun hc => ?_) ?_); (exfalso; first | omega | (simp [eqC, cellsI, idv, idl] at hc; first | done | omega) | contradiction) | (with_reducible refine Fork.F (fun hc => ?_) ?_); (exfalso; first | omega | (simp [eqC, cellsI, idv, idl] at hc; first | done | omega) | contradiction) | (with_reducible refine Owe.mk ?_ ?_); (first | omega | (unfold most; omega) | decide +kernel | exact Nat.le_of_ble_eq_true rfl | assumption | (simp [most]; omega)) | (with_reducible intro z hz); (first | (replace hz := hz (by omega); subst hz) | subst hz)); (try (conv => whnf))))
      refine CallV.mk _ (hC _ _ _ (PCw.of (h3))) (fun js hjs => ?_); subst hjs
      (try (conv => whnf)); (repeat ((first | (with_reducible refine Fork.T (fun hc => ?_) ?_); (exfalso; first | omega | (simp [eqC, cellsI, idv, idl] at hc; first | done | omega) | contradiction) | (with_reducible refine Fork.F (fun hc => ?_) ?_); (exfalso; first | omega | (simp [eqC, cellsI, idv, idl] at hc; first | done | omega) | contradiction) | (with_reducible refine Owe.mk ?_ ?_); (first | omega | (unfold most; omega) | decide +kernel | exact Nat.le_of_ble_eq_true rfl | assumption | (simp [most]; omega)) | (with_reducible intro z hz); (first | (replace hz := hz (by omega); subst hz) | subst hz)); (try (conv => whnf))))
      refine CallV.mk _ (hC _ _ _ (PCw.of (h4))) (fun js hjs => ?_); subst hjs
      (try (conv => whnf)); (repeat ((first | (with_reducible refine Fork.T (fun hc => ?_) ?_); (exfalso; first | omega | (simp [eqC, cellsI, idv, idl] at hc; first | done | omega) | contradiction) | (with_reducible refine Fork.F (fun hc => ?_) ?_); (exfalso; first | omega | (simp [eqC, cellsI, idv, idl] at hc; first | done | omega) | contradiction) | (with_reducible refine Owe.mk ?_ ?_); (first | omega | (unfold most; omega) | decide +kernel | exact Nat.le_of_ble_eq_true rfl | assumption | (simp [most]; omega)) | (with_reducible intro z hz); (first | (replace hz := hz (by omega); subst hz) | subst hz)); (try (conv => whnf))))
      refine CallV.mk _ (hC _ _ _ (PCw.of (h2))) (fun js hjs => ?_); subst hjs
      (try (conv => whnf)); (repeat ((first | (with_reducible refine Fork.T (fun hc => ?_) ?_); (exfalso; first | omega | (simp [eqC, cellsI, idv, idl] at hc; first | done | omega) | contradiction) | (with_reducible refine Fork.F (fun hc => ?_) ?_); (exfalso; first | omega | (simp [eqC, cellsI, idv, idl] at hc; first | done | omega) | contradiction) | (with_reducible refine Owe.mk ?_ ?_); (first | omega | (unfold most; omega) | decide +kernel | exact Nat.le_of_ble_eq_true rfl | assumption | (simp [most]; omega)) | (with_reducible intro z hz); (first | (replace hz := hz (by omega); subst hz) | subst hz)); (try (conv => whnf))))
      refine CallV.mk _ (hC _ _ _ (PCw.of (h5))) (fun js hjs => ?_); subst hjs
      (try (conv => whnf)); (repeat ((first | (with_reducible refine Fork.T (fun hc => ?_) ?_); (exfalso; first | omega | (simp [eqC, cellsI, idv, idl] at hc; first | done | omega) | contradiction) | (with_reducible refine Fork.F (fun hc => ?_) ?_); (exfalso; first | omega | (simp [eqC, cellsI, idv, idl] at hc; first | done | omega) | contradiction) | (with_reducible refine Owe.mk ?_ ?_); (first | omega | (unfold most; omega) | decide +kernel | exact Nat.le_of_ble_eq_true rfl | assumption | (simp [most]; omega)) | (with_reducible intro z hz); (first | (replace hz := hz (by omega); subst hz) | subst hz)); (try (conv => whnf))))
      refine CallV.mk _ (hC _ _ _ (PCw.of (h6))) (fun js hjs => ?_); subst hjs
      (try (conv => whnf)); (repeat ((first | (with_reducible refine Fork.T (fun hc => ?_) ?_); (exfalso; first | omega | (simp [eqC, cellsI, idv, idl] at hc; first | done | omega) | contradiction) | (with_reducible refine Fork.F (fun hc => ?_) ?_); (exfalso; first | omega | (simp [eqC, cellsI, idv, idl] at hc; first | done | omega) | contradiction) | (with_reducible refine Owe.mk ?_ ?_); (first | omega | (unfold most; omega) | decide +kernel | exact Nat.le_of_ble_eq_true rfl | assumption | (simp [most]; omega)) | (with_reducible intro z hz); (first | (replace hz := hz (by omega); subst hz) | subst hz)); (try (conv => whnf))))
      exact hfin _ (ILes.refl _)
theorem lawParse (s : Str) (hs0 : s.size ≤ maxLen) : PC Tryd.prog envP 10 [.str s] [.bool true] := by
  have hA := upP awake_pc
  unfold maxLen at hs0
  by_cases hl : 1000 < s.size
  · refine PC.of_va (T := tb0) eqs2_ok tb_ok rfl mixed Tryd.func10 rfl rfl (Nat.le_of_ble_eq_true rfl) ?_; intro Γ C WK LP fin h0 hW hC hB hR hLP hfin
    (try (conv => whnf)); (repeat ((first | (with_reducible refine Fork.T (fun hc => ?_) ?_); (exfalso; first | omega | (simp [eqC, cellsI, idv, idl] at hc; first | done | omega) | contradiction) | (with_reducible refine Fork.F (fun hc => ?_) ?_); (exfalso; first | omega | (simp [eqC, cellsI, idv, idl] at hc; first | done | omega) | contradiction) | (with_reducible refine Owe.mk ?_ ?_); (first | omega | (unfold most; omega) | decide +kernel | exact Nat.le_of_ble_eq_true rfl | assumption | (simp [most]; omega)) | (with_reducible intro z hz); (first | (replace hz := hz (by omega); subst hz) | subst hz)); (try (conv => whnf))))
    refine CallV.mk _ (hC _ _ _ (PCw.of (hA))) (fun js hjs => ?_); subst hjs
    (try (conv => whnf)); (repeat ((first | (with_reducible refine Fork.T (fun hc => ?_) ?_); (exfalso; first | omega | (simp [eqC, cellsI, idv, idl] at hc; first | done | omega) | contradiction) | (with_reducible refine Fork.F (fun hc => ?_) ?_); (exfalso; first | omega | (simp [eqC, cellsI, idv, idl] at hc; first | done | omega) | contradiction) | (with_reducible refine Owe.mk ?_ ?_); (first | omega | (unfold most; omega) | decide +kernel | exact Nat.le_of_ble_eq_true rfl | assumption | (simp [most]; omega)) | (with_reducible intro z hz); (first | (replace hz := hz (by omega); subst hz) | subst hz)); (try (conv => whnf))))
    refine CallV.mk _ (hC _ _ _ (PCw.of (hA))) (fun js hjs => ?_); subst hjs
    (try (conv => whnf)); (repeat ((first | (with_reducible refine Fork.T (fun hc => ?_) ?_); (exfalso; first | omega | (simp [eqC, cellsI, idv, idl] at hc; first | done | omega) | contradiction) | (with_reducible refine Fork.F (fun hc => ?_) ?_); (exfalso; first | omega | (simp [eqC, cellsI, idv, idl] at hc; first | done | omega) | contradiction) | (with_reducible refine Owe.mk ?_ ?_); (first | omega | (unfold most; omega) | decide +kernel | exact Nat.le_of_ble_eq_true rfl | assumption | (simp [most]; omega)) | (with_reducible intro z hz); (first | (replace hz := hz (by omega); subst hz) | subst hz)); (try (conv => whnf))))
    exact hfin _ (ILes.refl _)
  · have h1 := parse_pc s (by omega)
    have h2 := upP (rparse_pc s (by omega))
    cases hq : refQ s with
    | none =>
      rw [hq] at h1 h2
      change PC _ _ _ _ [.sl 2 [], .int .i64 2] at h1
      change PC _ _ _ _ [.sl 2 [], .bool false] at h2
      refine PC.of_va (T := tb0) eqs2_ok tb_ok rfl mixed Tryd.func10 rfl rfl (Nat.le_of_ble_eq_true rfl) ?_; intro Γ C WK LP fin h0 hW hC hB hR hLP hfin
      (try (conv => whnf)); (repeat ((first | (with_reducible refine Fork.T (fun hc => ?_) ?_); (exfalso; first | omega | (simp [eqC, cellsI, idv, idl] at hc; first | done | omega) | contradiction) | (with_reducible refine Fork.F (fun hc => ?_) ?_); (exfalso; first | omega | (simp [eqC, cellsI, idv, idl] at hc; first | done | omega) | contradiction) | (with_reducible refine Owe.mk ?_ ?_); (first | omega | (unfold most; omega) | decide +kernel | exact Nat.le_of_ble_eq_true rfl | assumption | (simp [most]; omega)) | (with_reducible intro z hz); (first | (replace hz := hz (by omega); subst hz) | subst hz)); (try (conv => whnf))))
      refine CallV.mk _ (hC _ _ _ (PCw.of (hA))) (fun js hjs => ?_); subst hjs
      (try (conv => whnf)); (repeat ((first | (with_reducible refine Fork.T (fun hc => ?_) ?_); (exfalso; first | omega | (simp [eqC, cellsI, idv, idl] at hc; first | done | omega) | contradiction) | (with_reducible refine Fork.F (fun hc => ?_) ?_); (exfalso; first | omega | (simp [eqC, cellsI, idv, idl] at hc; first | done | omega) | contradiction) | (with_reducible refine Owe.mk ?_ ?_); (first | omega | (unfold most; omega) | decide +kernel | exact Nat.le_of_ble_eq_true rfl | assumption | (simp [most]; omega)) | (with_reducible intro z hz); (first | (replace hz := hz (by omega); subst hz) | subst hz)); (try (conv => whnf))))
      refine CallV.mk _ (hC _ _ _ (PCw.of (h1))) (fun js hjs => ?_); subst hjs
      (try (conv => whnf)); (repeat ((first | (with_reducible refine Fork.T (fun hc => ?_) ?_); (exfalso; first | omega | (simp [eqC, cellsI, idv, idl] at hc; first | done | omega) | contradiction) | (with_reducible refine Fork.F (fun hc => ?_) ?_); (exfalso; first | omega | (simp [eqC, cellsI, idv, idl] at hc; first | done | omega) | contradiction) | (with_reducible refine Owe.mk ?_ ?_); (first | omega | (unfold most; omega) | decide +kernel | exact Nat.le_of_ble_eq_true rfl | assumption | (simp [most]; omega)) | (with_reducible intro z hz); (first | (replace hz := hz (by omega); subst hz) | subst hz)); (try (conv => whnf))))
      refine CallV.mk _ (hC _ _ _ (PCw.of (h2))) (fun js hjs => ?_); subst hjs
      (try (conv => whnf)); (repeat ((first | (with_reducible refine Fork.T (fun hc => ?_) ?_); (exfalso; first | omega | (simp [eqC, cellsI, idv, idl] at hc; first | done | omega) | contradiction) | (with_reducible refine Fork.F (fun hc => ?_) ?_); (exfalso; first | omega | (simp [eqC, cellsI, idv, idl] at hc; first | done | omega) | contradiction) | (with_reducible refine Owe.mk ?_ ?_); (first | omega | (unfold most; omega) | decide +kernel | exact Nat.le_of_ble_eq_true rfl | assumption | (simp [most]; omega)) | (with_reducible intro z hz); (first | (replace hz := hz (by omega); subst hz) | subst hz)); (try (conv => whnf))))
      exact hfin _ (ILes.refl _)
    | some p =>
      rw [hq] at h1 h2
      change PC _ _ _ _ [.sl 2 (p.map spv), .int .i64 0] at h1
      change PC _ _ _ _ [.sl 2 (p.map spv), .bool true] at h2
      obtain ⟨hm, ht⟩ := refQ_some hq
      have hl9 := (mayA_iff.1 hm).1
      have h6 := upP (same7_pc p p (by omega))
      rw [decide_eq_true rfl] at h6
      have hps : ∀ t ∈ p, shortS t := fun t h => by
        have h7 := label_in h
        have h8 : (textA p).size = (joinB (wordsA p)).length := by unfold textA; rw [if_pos hm, mkB_size]
        rw [ht] at h8
        unfold shortS
        omega
      have h3 := upP (format_pc p hps)
      rw [ht] at h3
      refine PC.of_va (T := tb0) eqs2_ok tb_ok rfl mixed Tryd.func10 rfl rfl (Nat.le_of_ble_eq_true rfl) ?_; intro Γ C WK LP fin h0 hW hC hB hR hLP hfin
      (try (conv => whnf)); (repeat ((first | (with_reducible refine Fork.T (fun hc => ?_) ?_); (exfalso; first | omega | (simp [eqC, cellsI, idv, idl] at hc; first | done | omega) | contradiction) | (with_reducible refine Fork.F (fun hc => ?_) ?_); (exfalso; first | omega | (simp [eqC, cellsI, idv, idl] at hc; first | done | omega) | contradiction) | (with_reducible refine Owe.mk ?_ ?_); (first | omega | (unfold most; omega) | decide +kernel | exact Nat.le_of_ble_eq_true rfl | assumption | (simp [most]; omega)) | (with_reducible intro z hz); (first | (replace hz := hz (by omega); subst hz) | subst hz)); (try (conv => whnf))))
      refine CallV.mk _ (hC _ _ _ (PCw.of (hA))) (fun js hjs => ?_); subst hjs
      (try (conv => whnf)); (repeat ((first | (with_reducible refine Fork.T (fun hc => ?_) ?_); (exfalso; first | omega | (simp [eqC, cellsI, idv, idl] at hc; first | done | omega) | contradiction) | (with_reducible refine Fork.F (fun hc => ?_) ?_); (exfalso; first | omega | (simp [eqC, cellsI, idv, idl] at hc; first | done | omega) | contradiction) | (with_reducible refine Owe.mk ?_ ?_); (first | omega | (unfold most; omega) | decide +kernel | exact Nat.le_of_ble_eq_true rfl | assumption | (simp [most]; omega)) | (with_reducible intro z hz); (first | (replace hz := hz (by omega); subst hz) | subst hz)); (try (conv => whnf))))
      refine CallV.mk _ (hC _ _ _ (PCw.of (h1))) (fun js hjs => ?_); subst hjs
      (try (conv => whnf)); (repeat ((first | (with_reducible refine Fork.T (fun hc => ?_) ?_); (exfalso; first | omega | (simp [eqC, cellsI, idv, idl] at hc; first | done | omega) | contradiction) | (with_reducible refine Fork.F (fun hc => ?_) ?_); (exfalso; first | omega | (simp [eqC, cellsI, idv, idl] at hc; first | done | omega) | contradiction) | (with_reducible refine Owe.mk ?_ ?_); (first | omega | (unfold most; omega) | decide +kernel | exact Nat.le_of_ble_eq_true rfl | assumption | (simp [most]; omega)) | (with_reducible intro z hz); (first | (replace hz := hz (by omega); subst hz) | subst hz)); (try (conv => whnf))))
      refine CallV.mk _ (hC _ _ _ (PCw.of (h2))) (fun js hjs => ?_); subst hjs
      (try (conv => whnf)); (repeat ((first | (with_reducible refine Fork.T (fun hc => ?_) ?_); (exfalso; first | omega | (simp [eqC, cellsI, idv, idl] at hc; first | done | omega) | contradiction) | (with_reducible refine Fork.F (fun hc => ?_) ?_); (exfalso; first | omega | (simp [eqC, cellsI, idv, idl] at hc; first | done | omega) | contradiction) | (with_reducible refine Owe.mk ?_ ?_); (first | omega | (unfold most; omega) | decide +kernel | exact Nat.le_of_ble_eq_true rfl | assumption | (simp [most]; omega)) | (with_reducible intro z hz); (first | (replace hz := hz (by omega); subst hz) | subst hz)); (try (conv => whnf))))
      refine CallV.mk _ (hC _ _ _ (PCw.of (h6))) (fun js hjs => ?_); subst hjs
      (try (conv => whnf)); (repeat ((first | (with_reducible refine Fork.T (fun hc => ?_) ?_); (exfalso; first | omega | (simp [eqC, cellsI, idv, idl] at hc; first | done | omega) | contradiction) | (with_reducible refine Fork.F (fun hc => ?_) ?_); (exfalso; first | omega | (simp [eqC, cellsI, idv, idl] at hc; first | done | omega) | contradiction) | (with_reducible refine Owe.mk ?_ ?_); (first | omega | (unfold most; omega) | decide +kernel | exact Nat.le_of_ble_eq_true rfl | assumption | (simp [most]; omega)) | (with_reducible intro z hz); (first | (replace hz := hz (by omega); subst hz) | subst hz)); (try (conv => whnf))))
      refine CallV.mk _ (hC _ _ _ (PCw.of (h3))) (fun js hjs => ?_); subst hjs
      (try (conv => whnf)); (repeat ((first | (with_reducible refine Fork.T (fun hc => ?_) ?_); (exfalso; first | omega | (simp [eqC, cellsI, idv, idl] at hc; first | done | omega) | contradiction) | (with_reducible refine Fork.F (fun hc => ?_) ?_); (exfalso; first | omega | (simp [eqC, cellsI, idv, idl] at hc; first | done | omega) | contradiction) | (with_reducible refine Owe.mk ?_ ?_); (first | omega | (unfold most; omega) | decide +kernel | exact Nat.le_of_ble_eq_true rfl | assumption | (simp [most]; omega)) | (with_reducible intro z hz); (first | (replace hz := hz (by omega); subst hz) | subst hz)); (try (conv => whnf))))
      exact hfin _ (ILes.refl _)
end Go.Proofs.YtbkbmeciaippmaaDoor.Pa
