/-
  The reference: in, deep, taken, put, Grown, shared. The reference's Wrong, Insert. TreeeditInserts. TreeeditInserts, for arguments that came in.
-/
import Derived.Test.YtmnbobcgjnickaaGreatDoorT2
import Derived.Test.YtmnbobcgjnickaaGreatDoorR2
import Derived.Test.YtmnbobcgjnickaaGreatDoorT1
namespace Go.Proofs.YtmnbobcgjnickaaGreatDoor.Pt
open Go Go.Pv Go.RowKit
set_option linter.unusedSimpArgs false
open Lab Lcs Go.Proofs.YtmnbobcgjnickaaGreatDoor Go.Proofs.YtmnbobcgjnickaaGreatDoor.Pu
set_option maxRecDepth 10000
set_option maxHeartbeats 16000000
theorem rnests_pc (p z : Int) : PC Tryz.prog env0 35 [.int .i64 p, .int .i64 z] [.bool (nestsB p z)] :=
 lift_bool (enters_of Tryz.func35 rfl rfl) fun Q w vs hQ hR hvs => by
   unfold RepIs at hvs
   obtain ⟨v, r, rfl, h1, h2⟩ := hvs
   unfold RepIs at h2
   obtain ⟨v2, r2, rfl, h3, h4⟩ := h2
   unfold RepIs at h4
   unfold RepI at h1 h3
   subst h1
   subst h3
   subst h4
   exact (nests_any p z w).mono fun e w' h => ⟨h.1, h.2 ▸ Below.refl _ _⟩
theorem find_count (t : Trip) (u : Ut) : (findU t u).count ≤ u.count := by
 unfold findU
 cases hq : linL t u with
 | nil => exact count_pos u
 | cons x r => exact all_count (lin_head u.count (Nat.le_refl _) x r hq).2
theorem in_pc (u : Ut) (id : Trip) (h : u.count ≤ 100000000) : PC Tryz.prog env0 44 [uv u, idv id] [.bool (decide (id ∈ u.ids))] := by
 have hFi := rfind_pc id u.count u (Nat.le_refl _) h
 have hue := uv_eq u
 rw [found_mem] at hFi
 generalize findU id u = x at hFi
 generalize decide (id ∈ u.ids) = b at hFi ⊢
 rw [uv_eq x] at hFi
 rw [hue] at hFi ⊢
 refine PC.of_va (T := tb0) eqs_ok tb_ok rfl mixed Tryz.func44 rfl rfl (Nat.le_of_ble_eq_true rfl) ?_; intro Γ C WK LP fin h0 hW hC hB hR hLP hfin
 (try (conv => whnf)); (repeat ((first | refine qT ?_ | refine qF ?_ | refine qO ?_ | (with_reducible intro z hz); (first | (replace hz := hz (by omega); subst hz) | subst hz) | (refine CallV.mk _ (hC _ _ _ (PCw.of hFi)) (fun js hjs => ?_); subst hjs)); (try (conv => whnf))))
 exact hfin _ (ILes.refl _)
theorem deep_pc (u : Ut) (id : Trip) (h : u.count ≤ 100000000) : PC Tryz.prog env0 37 [uv u, idv id] [.int .i64 ((ancL id u).length : Nat)] := by
 have hAn := (above_pcr id u.count u (Nat.le_refl _) h).pc
 have hml : ((ancL id u).map idv).length = (ancL id u).length := List.length_map _
 have hue := uv_eq u
 rw [hue] at hAn ⊢
 refine PC.of_va (T := tb0) eqs_ok tb_ok rfl mixed Tryz.func37 rfl rfl (Nat.le_of_ble_eq_true rfl) ?_; intro Γ C WK LP fin h0 hW hC hB hR hLP hfin
 (try (conv => whnf)); (repeat ((first | refine qT ?_ | refine qF ?_ | refine qO ?_ | (with_reducible intro z hz); (first | (replace hz := hz (by omega); subst hz) | subst hz) | (refine CallV.mk _ (hC _ _ _ (PCw.of hAn)) (fun js hjs => ?_); subst hjs)); (try (conv => whnf))))
 rw [hml]
 exact hfin _ (ILes.refl _)
def takenO (l : List Ut) (kd : Int) (lb : Str) (but : Trip) : Bool := l.any fun u => decide (u.kind = kd) && (decide (u.label = lb) && decide (u.id ≠ but))
theorem put_pcr (l : List Ut) (x : Ut) (j : Nat) (hj : j ≤ l.length) (hl : l.length ≤ 10000000) : PCR Tryz.prog env0 66 [.sl 8 (l.map uv), .int .i64 (j : Nat), uv x] 27 8 ((l.take j ++ [x] ++ l.drop j).map uv) := by
 have hml : (l.map uv).length = l.length := List.length_map _
 have hxe := uv_eq x
 have hfl : (l.take j ++ [x] ++ l.drop j).map uv = (l.map uv).take j ++ [uv x] ++ (l.map uv).drop j := by simp [List.map_take, List.map_drop]
 rw [hfl, hxe]
 refine PCR.of_va (T := tb0) eqs_ok tb_ok rfl mixed Tryz.func66 rfl rfl (Nat.le_of_ble_eq_true rfl) rfl ?_; intro Γ C WK LP fin h0 hW hC hB hR hLP hfin
 (try (conv => whnf)); (repeat ((first | refine qT ?_ | refine qF ?_ | refine qO ?_ | (with_reducible intro z hz); (first | (replace hz := hz (by omega); subst hz) | subst hz)); (try (conv => whnf))))
 refine hfin _ _ _ _ ((WeakA.row 1 (((l.map uv).take j ++ [IV.agg [.int .i64 x.id.x, .int .i64 x.id.y, .int .i64 x.id.z, .int .i64 x.kind, .str x.label, .sl 4 (x.head.map wdv), .sl 4 (x.words.map wdv), .sl 8 (x.kids.map uv)]] ++ (l.map uv).drop j).map .imm) rfl (by simp))) rfl
theorem rtaken_pc (l : List Ut) (kd : Int) (lb : Str) (but : Trip) (hl : l.length ≤ 100000000) : PC Tryz.prog env0 36 [.sl 8 (l.map uv), .int .i64 kd, .str lb, idv but, .bool true] [.bool (takenB l kd lb)] := by
 have hml : (l.map uv).length = l.length := List.length_map _
 unfold takenB
 refine PC.of_va (T := tb0) eqs_ok tb_ok rfl mixed Tryz.func36 rfl rfl (Nat.le_of_ble_eq_true rfl) ?_; intro Γ C WK LP fin h0 hW hC hB hR hLP hfin
 (try (conv => whnf)); (repeat ((first | refine qT ?_ | refine qF ?_ | refine qO ?_ | (with_reducible intro z hz); (first | (replace hz := hz (by omega); subst hz) | subst hz)); (try (conv => whnf))))
 refine hLP _ _ _ Nat (fun k => ⟨[(0, .imm (.sl 8 (l.map uv))), (1, .imm (.int .i64 kd)), (2, .imm (.str lb)), (4, .imm (.bool true)), (8, .ptr 0 1 0), (11, .imm (.int .i64 (k : Nat)))], [.box 1 [.imm (.int .i64 but.x), .imm (.int .i64 but.y), .imm (.int .i64 but.z)]]⟩) (fun k => k ≤ l.length ∧ ∀ y ∈ l.take k, (fun u : Ut => decide (u.kind = kd) && decide (u.label = lb)) y = false) (fun k => l.length - k) 0 ⟨Nat.zero_le _, by simp⟩ (qSL 1 rfl rfl) ?_
 rintro k ⟨hk, hp⟩
 have hho := Nat.lt_or_ge k l.length
 cases hho with
 | inl hlt =>
   obtain ⟨x, hx⟩ : ∃ x, l[k]? = some x := ⟨l[k], List.getElem?_eq_getElem hlt⟩
   have hux := uv_eq x
   have hno : (fun u : Ut => decide (u.kind = kd) && decide (u.label = lb)) x = false → ∀ y ∈ l.take (k + 1), (fun u : Ut => decide (u.kind = kd) && decide (u.label = lb)) y = false := fun hq y hy => by
     rw [take_at hx, List.mem_append] at hy
     rcases hy with hy | hy
     · exact hp y hy
     · rw [List.mem_singleton.1 hy]; exact hq
   have hyes : (fun u : Ut => decide (u.kind = kd) && decide (u.label = lb)) x = true → l.any (fun u : Ut => decide (u.kind = kd) && decide (u.label = lb)) = true := fun hq => List.any_eq_true.2 ⟨x, List.mem_of_getElem? hx, hq⟩
   by_cases h1 : x.kind = kd
   rotate_left
   · replace hno := hno (by simp [h1])
     (try (conv => whnf)); (repeat ((first | refine qT ?_ | refine qF ?_ | refine qO ?_ | (with_reducible intro z hz); (first | (replace hz := hz (by omega); subst hz) | subst hz)); (try (conv => whnf))))
     refine Idx.mk k (uv x) _ rfl (by simp [hx]) (by rw [hux]; try rfl) ?_
     (try (conv => whnf)); (repeat ((first | refine qT ?_ | refine qF ?_ | refine qO ?_ | (with_reducible intro z hz); (first | (replace hz := hz (by omega); subst hz) | subst hz)); (try (conv => whnf))))
     exact ⟨k + 1, ⟨by omega, hno⟩, by dsimp only; omega, (qSL 1 rfl rfl)⟩
   by_cases h2 : x.label = lb
   rotate_left
   · replace hno := hno (by simp [h2])
     (try (conv => whnf)); (repeat ((first | refine qT ?_ | refine qF ?_ | refine qO ?_ | (with_reducible intro z hz); (first | (replace hz := hz (by omega); subst hz) | subst hz)); (try (conv => whnf))))
     refine Idx.mk k (uv x) _ rfl (by simp [hx]) (by rw [hux]; try rfl) ?_
     (try (conv => whnf)); (repeat ((first | refine qT ?_ | refine qF ?_ | refine qO ?_ | (with_reducible intro z hz); (first | (replace hz := hz (by omega); subst hz) | subst hz)); (try (conv => whnf))))
     refine Idx.mk k (uv x) _ rfl (by simp [hx]) (by rw [hux]; try rfl) ?_
     (try (conv => whnf)); (repeat ((first | refine qT ?_ | refine qF ?_ | refine qO ?_ | (with_reducible intro z hz); (first | (replace hz := hz (by omega); subst hz) | subst hz)); (try (conv => whnf))))
     exact ⟨k + 1, ⟨by omega, hno⟩, by dsimp only; omega, (qSL 1 rfl rfl)⟩
   replace hyes := hyes (by simp [h1, h2])
   rw [hyes] at hfin
   (try (conv => whnf)); (repeat ((first | refine qT ?_ | refine qF ?_ | refine qO ?_ | (with_reducible intro z hz); (first | (replace hz := hz (by omega); subst hz) | subst hz)); (try (conv => whnf))))
   refine Idx.mk k (uv x) _ rfl (by simp [hx]) (by rw [hux]; try rfl) ?_
   (try (conv => whnf)); (repeat ((first | refine qT ?_ | refine qF ?_ | refine qO ?_ | (with_reducible intro z hz); (first | (replace hz := hz (by omega); subst hz) | subst hz)); (try (conv => whnf))))
   refine Idx.mk k (uv x) _ rfl (by simp [hx]) (by rw [hux]; try rfl) ?_
   (try (conv => whnf)); (repeat ((first | refine qT ?_ | refine qF ?_ | refine qO ?_ | (with_reducible intro z hz); (first | (replace hz := hz (by omega); subst hz) | subst hz)); (try (conv => whnf))))
   exact hfin _ (ILes.refl _)
 | inr hge =>
   obtain rfl : k = l.length := by omega
   rw [List.take_length] at hp
   have hf : l.any (fun u : Ut => decide (u.kind = kd) && decide (u.label = lb)) = false := List.any_eq_false.2 fun y hy => by
     have := hp y hy
     dsimp only at this
     rw [this]
     decide
   rw [hf] at hfin
   (try (conv => whnf)); (repeat ((first | refine qT ?_ | refine qF ?_ | refine qO ?_ | (with_reducible intro z hz); (first | (replace hz := hz (by omega); subst hz) | subst hz)); (try (conv => whnf))))
   exact hfin _ (ILes.refl _)
theorem rtakenO_pc (l : List Ut) (kd : Int) (lb : Str) (but : Trip) (hl : l.length ≤ 100000000) : PC Tryz.prog env0 36 [.sl 8 (l.map uv), .int .i64 kd, .str lb, idv but, .bool false] [.bool (takenO l kd lb but)] := by
 have hml : (l.map uv).length = l.length := List.length_map _
 unfold takenO
 refine PC.of_va (T := tb0) eqs_ok tb_ok rfl mixed Tryz.func36 rfl rfl (Nat.le_of_ble_eq_true rfl) ?_; intro Γ C WK LP fin h0 hW hC hB hR hLP hfin
 (try (conv => whnf)); (repeat ((first | refine qT ?_ | refine qF ?_ | refine qO ?_ | (with_reducible intro z hz); (first | (replace hz := hz (by omega); subst hz) | subst hz)); (try (conv => whnf))))
 refine hLP _ _ _ Nat (fun k => ⟨[(0, .imm (.sl 8 (l.map uv))), (1, .imm (.int .i64 kd)), (2, .imm (.str lb)), (4, .imm (.bool false)), (8, .ptr 0 1 0), (11, .imm (.int .i64 (k : Nat)))], [.box 1 [.imm (.int .i64 but.x), .imm (.int .i64 but.y), .imm (.int .i64 but.z)]]⟩) (fun k => k ≤ l.length ∧ ∀ y ∈ l.take k, (fun u : Ut => decide (u.kind = kd) && (decide (u.label = lb) && decide (u.id ≠ but))) y = false) (fun k => l.length - k) 0 ⟨Nat.zero_le _, by simp⟩ (qSL 1 rfl rfl) ?_
 rintro k ⟨hk, hp⟩
 have hho := Nat.lt_or_ge k l.length
 cases hho with
 | inl hlt =>
   obtain ⟨x, hx⟩ : ∃ x, l[k]? = some x := ⟨l[k], List.getElem?_eq_getElem hlt⟩
   have hux := uv_eq x
   have hno : (fun u : Ut => decide (u.kind = kd) && (decide (u.label = lb) && decide (u.id ≠ but))) x = false → ∀ y ∈ l.take (k + 1), (fun u : Ut => decide (u.kind = kd) && (decide (u.label = lb) && decide (u.id ≠ but))) y = false := fun hq y hy => by
     rw [take_at hx, List.mem_append] at hy
     rcases hy with hy | hy
     · exact hp y hy
     · rw [List.mem_singleton.1 hy]; exact hq
   have hyes : (fun u : Ut => decide (u.kind = kd) && (decide (u.label = lb) && decide (u.id ≠ but))) x = true → l.any (fun u : Ut => decide (u.kind = kd) && (decide (u.label = lb) && decide (u.id ≠ but))) = true := fun hq => List.any_eq_true.2 ⟨x, List.mem_of_getElem? hx, hq⟩
   by_cases h1 : x.kind = kd
   rotate_left
   · replace hno := hno (by simp [h1])
     (try (conv => whnf)); (repeat ((first | refine qT ?_ | refine qF ?_ | refine qO ?_ | (with_reducible intro z hz); (first | (replace hz := hz (by omega); subst hz) | subst hz)); (try (conv => whnf))))
     refine Idx.mk k (uv x) _ rfl (by simp [hx]) (by rw [hux]; try rfl) ?_
     (try (conv => whnf)); (repeat ((first | refine qT ?_ | refine qF ?_ | refine qO ?_ | (with_reducible intro z hz); (first | (replace hz := hz (by omega); subst hz) | subst hz)); (try (conv => whnf))))
     exact ⟨k + 1, ⟨by omega, hno⟩, by dsimp only; omega, (qSL 1 rfl rfl)⟩
   by_cases h2 : x.label = lb
   rotate_left
   · replace hno := hno (by simp [h2])
     (try (conv => whnf)); (repeat ((first | refine qT ?_ | refine qF ?_ | refine qO ?_ | (with_reducible intro z hz); (first | (replace hz := hz (by omega); subst hz) | subst hz)); (try (conv => whnf))))
     refine Idx.mk k (uv x) _ rfl (by simp [hx]) (by rw [hux]; try rfl) ?_
     (try (conv => whnf)); (repeat ((first | refine qT ?_ | refine qF ?_ | refine qO ?_ | (with_reducible intro z hz); (first | (replace hz := hz (by omega); subst hz) | subst hz)); (try (conv => whnf))))
     refine Idx.mk k (uv x) _ rfl (by simp [hx]) (by rw [hux]; try rfl) ?_
     (try (conv => whnf)); (repeat ((first | refine qT ?_ | refine qF ?_ | refine qO ?_ | (with_reducible intro z hz); (first | (replace hz := hz (by omega); subst hz) | subst hz)); (try (conv => whnf))))
     exact ⟨k + 1, ⟨by omega, hno⟩, by dsimp only; omega, (qSL 1 rfl rfl)⟩
   by_cases h3 : x.id = but
   · have hi := id_eq h3
     replace hno := hno (by simp [h3])
     (try (conv => whnf)); (repeat ((first | refine qT ?_ | refine qF ?_ | refine qO ?_ | (with_reducible intro z hz); (first | (replace hz := hz (by omega); subst hz) | subst hz)); (try (conv => whnf))))
     refine Idx.mk k (uv x) _ rfl (by simp [hx]) (by rw [hux]; try rfl) ?_
     (try (conv => whnf)); (repeat ((first | refine qT ?_ | refine qF ?_ | refine qO ?_ | (with_reducible intro z hz); (first | (replace hz := hz (by omega); subst hz) | subst hz)); (try (conv => whnf))))
     refine Idx.mk k (uv x) _ rfl (by simp [hx]) (by rw [hux]; try rfl) ?_
     (try (conv => whnf)); (repeat ((first | refine qT ?_ | refine qF ?_ | refine qO ?_ | (with_reducible intro z hz); (first | (replace hz := hz (by omega); subst hz) | subst hz)); (try (conv => whnf))))
     refine Idx.mk k (uv x) _ rfl (by simp [hx]) (by rw [hux]; try rfl) ?_
     (try (conv => whnf)); (repeat ((first | refine qT ?_ | refine qF ?_ | refine qO ?_ | (with_reducible intro z hz); (first | (replace hz := hz (by omega); subst hz) | subst hz)); (try (conv => whnf))))
     exact ⟨k + 1, ⟨by omega, hno⟩, by dsimp only; omega, (qSL 1 rfl rfl)⟩
   · have hi := id_ne h3
     replace hyes := hyes (by simp [h1, h2, h3])
     rw [hyes] at hfin
     (try (conv => whnf)); (repeat ((first | refine qT ?_ | refine qF ?_ | refine qO ?_ | (with_reducible intro z hz); (first | (replace hz := hz (by omega); subst hz) | subst hz)); (try (conv => whnf))))
     refine Idx.mk k (uv x) _ rfl (by simp [hx]) (by rw [hux]; try rfl) ?_
     (try (conv => whnf)); (repeat ((first | refine qT ?_ | refine qF ?_ | refine qO ?_ | (with_reducible intro z hz); (first | (replace hz := hz (by omega); subst hz) | subst hz)); (try (conv => whnf))))
     refine Idx.mk k (uv x) _ rfl (by simp [hx]) (by rw [hux]; try rfl) ?_
     (try (conv => whnf)); (repeat ((first | refine qT ?_ | refine qF ?_ | refine qO ?_ | (with_reducible intro z hz); (first | (replace hz := hz (by omega); subst hz) | subst hz)); (try (conv => whnf))))
     refine Idx.mk k (uv x) _ rfl (by simp [hx]) (by rw [hux]; try rfl) ?_
     (try (conv => whnf)); (repeat ((first | refine qT ?_ | refine qF ?_ | refine qO ?_ | (with_reducible intro z hz); (first | (replace hz := hz (by omega); subst hz) | subst hz)); (try (conv => whnf))))
     exact hfin _ (ILes.refl _)
 | inr hge =>
   obtain rfl : k = l.length := by omega
   rw [List.take_length] at hp
   have hf : l.any (fun u : Ut => decide (u.kind = kd) && (decide (u.label = lb) && decide (u.id ≠ but))) = false := List.any_eq_false.2 fun y hy => by
     have := hp y hy
     dsimp only at this
     rw [this]
     decide
   rw [hf] at hfin
   (try (conv => whnf)); (repeat ((first | refine qT ?_ | refine qF ?_ | refine qO ?_ | (with_reducible intro z hz); (first | (replace hz := hz (by omega); subst hz) | subst hz)); (try (conv => whnf))))
   exact hfin _ (ILes.refl _)
theorem grown_pc (p : Trip) (j : Nat) (x : Ut) (n : Nat) : ∀ u : Ut, u.count ≤ n → n ≤ 10000000 → (∀ w ∈ u.all, w.id = p → j ≤ w.kids.length) → PC Tryz.prog env0 34 [uv u, idv p, .int .i64 (j : Nat), uv x] [uv (putAt p (insAt j x) u)] := by
 induction n with
 | zero => intro u h; have := count_pos u; omega
 | succ n ih =>
 intro u hn hM hj
 have hue := uv_eq u
 have hxe := uv_eq x
 have hcu := Ut.count_eq u
 have hkl := kids_counts u.kids
 have hml : (u.kids.map uv).length = u.kids.length := List.length_map _
 rw [putAt_eq]
 by_cases hi : u.id = p
 · have hi2 := id_eq hi
   rw [if_pos hi]
   have hPu := (put_pcr u.kids x j (hj u (self_all u) hi) (by omega)).pc
   unfold insAt
   rw [uv_with, hue, hxe]
   rw [hxe] at hPu
   refine PC.of_va (T := tb0) eqs_ok tb_ok rfl mixed Tryz.func34 rfl rfl (Nat.le_of_ble_eq_true rfl) ?_; intro Γ C WK LP fin h0 hW hC hB hR hLP hfin
   (try (conv => whnf)); (repeat ((first | refine qT ?_ | refine qF ?_ | refine qO ?_ | (with_reducible intro z hz); (first | (replace hz := hz (by omega); subst hz) | subst hz) | (refine CallV.mk _ (hC _ _ _ (PCw.of hPu)) (fun js hjs => ?_); subst hjs)); (try (conv => whnf))))
   exact hfin _ (ILes.refl _)
 · have hi2 := id_ne hi
   rw [if_neg hi, uv_with, hue, hxe]
   refine PC.of_va (T := tb0) eqs_ok tb_ok rfl mixed Tryz.func34 rfl rfl (Nat.le_of_ble_eq_true rfl) ?_; intro Γ C WK LP fin h0 hW hC hB hR hLP hfin
   (try (conv => whnf)); (repeat ((first | refine qT ?_ | refine qF ?_ | refine qO ?_ | (with_reducible intro z hz); (first | (replace hz := hz (by omega); subst hz) | subst hz)); (try (conv => whnf))))
   refine hLP _ _ _ Nat (fun k => ⟨[(2, .imm (.int .i64 (j : Nat))), (4, .ptr 0 1 0), (5, .ptr 1 1 0), (7, .ptr 2 1 0), (8, .ptr 3 1 0), (9, .row 4 1), (10, .imm (.int .i64 (k : Nat)))], [.box 1 [.imm (.int .i64 u.id.x), .imm (.int .i64 u.id.y), .imm (.int .i64 u.id.z), .imm (.int .i64 u.kind), .imm (.str u.label), .imm (.sl 4 (u.head.map wdv)), .imm (.sl 4 (u.words.map wdv)), .imm (.sl 8 (u.kids.map uv))], .box 1 [.imm (.int .i64 p.x), .imm (.int .i64 p.y), .imm (.int .i64 p.z)], .box 1 [.imm (.int .i64 x.id.x), .imm (.int .i64 x.id.y), .imm (.int .i64 x.id.z), .imm (.int .i64 x.kind), .imm (.str x.label), .imm (.sl 4 (x.head.map wdv)), .imm (.sl 4 (x.words.map wdv)), .imm (.sl 8 (x.kids.map uv))], .box 1 [.imm (.int .i64 0), .imm (.int .i64 0), .imm (.int .i64 0), .imm (.int .i64 0), .imm (.str ⟨#[]⟩), .imm .nil, .imm .nil, .imm .nil], .row 27 8 1 ((((u.kids.take k).map (putAt p (insAt j x))).map uv).map .imm)]⟩) (fun k => k ≤ u.kids.length) (fun k => u.kids.length - k) 0 (Nat.zero_le _) (((WeakA.row 4 ((((u.kids.take 0).map (putAt p (insAt j x))).map uv).map .imm) rfl (by simp))).trans (qSL 5 rfl rfl)) ?_
   intro k hk
   have hho := Nat.lt_or_ge k u.kids.length
   cases hho with
   | inl hlt =>
     obtain ⟨c, hc⟩ : ∃ c, u.kids[k]? = some c := ⟨u.kids[k], List.getElem?_eq_getElem hlt⟩
     have huc := uv_eq c
     have hcl := kid_lt' hc
     have hI := ih c (by omega) (by omega) (fun w hw => hj w (kid_in (List.mem_of_getElem? hc) w hw))
     have hRl : ((((u.kids.take k).map (putAt p (insAt j x))).map uv).map PV.imm).length ≤ k := by
       rw [List.length_map, List.length_map, List.length_map, List.length_take]
       omega
     generalize hy : putAt p (insAt j x) c = y at hI
     rw [huc, uv_eq y, hxe] at hI
     (try (conv => whnf)); (repeat ((first | refine qT ?_ | refine qF ?_ | refine qO ?_ | (with_reducible intro z hz); (first | (replace hz := hz (by omega); subst hz) | subst hz)); (try (conv => whnf))))
     refine Idx.mk k (uv c) _ rfl (by simp [hc]) (by rw [huc]; try rfl) ?_
     (try (conv => whnf)); (repeat ((first | refine qT ?_ | refine qF ?_ | refine qO ?_ | (with_reducible intro z hz); (first | (replace hz := hz (by omega); subst hz) | subst hz) | (refine CallV.mk _ (hC _ _ _ (PCw.of hI)) (fun js hjs => ?_); subst hjs)); (try (conv => whnf))))
     exact ⟨k + 1, by omega, by dsimp only; omega, ((WeakA.row 4 ((((u.kids.take (k + 1)).map (putAt p (insAt j x))).map uv).map .imm) rfl (by rw [take_at hc, List.map_append, List.map_append, List.map_append, List.map_cons, List.map_nil, hy, List.map_cons, List.map_nil, uv_eq y]; rfl))).trans ((WeakA.renew 4 1 rfl (by first | omega | (intro _; rw [hk0 _ _ rfl]; exact Nat.le_of_ble_eq_true rfl)) (by repeat (first | exact trivial | refine And.intro (rgL_imms _ _ _ _) ?_ | refine And.intro rfl ?_))).trans (qSL 5 rfl rfl))⟩
   | inr hge =>
     (try (conv => whnf)); (repeat ((first | refine qT ?_ | refine qF ?_ | refine qO ?_ | (with_reducible intro z hz); (first | (replace hz := hz (by omega); subst hz) | subst hz)); (try (conv => whnf))))
     obtain rfl : k = u.kids.length := by omega
     refine Imms.mk ((u.kids.map (putAt p (insAt j x))).map uv) (by rw [List.take_length]) ?_
     exact hfin _ (ILes.refl _)
theorem with_pc (x : Ut) (n : Nat) : ∀ u : Ut, u.count ≤ n → n ≤ 10000000 → PC Tryz.prog env0 50 [uv u, uv x] [uv (putAt x.id (fun y => Ut.withKids x y.kids) u)] := by
 induction n with
 | zero => intro u h; have := count_pos u; omega
 | succ n ih =>
 intro u hn hM
 have hue := uv_eq u
 have hxe := uv_eq x
 have hcu := Ut.count_eq u
 have hkl := kids_counts u.kids
 have hml : (u.kids.map uv).length = u.kids.length := List.length_map _
 rw [putAt_eq]
 by_cases hi : u.id = x.id
 · have hi2 := id_eq hi
   rw [if_pos hi]
   rw [uv_with, hue, hxe]
   refine PC.of_va (T := tb0) eqs_ok tb_ok rfl mixed Tryz.func50 rfl rfl (Nat.le_of_ble_eq_true rfl) ?_; intro Γ C WK LP fin h0 hW hC hB hR hLP hfin
   (try (conv => whnf)); (repeat ((first | refine qT ?_ | refine qF ?_ | refine qO ?_ | (with_reducible intro z hz); (first | (replace hz := hz (by omega); subst hz) | subst hz)); (try (conv => whnf))))
   exact hfin _ (ILes.refl _)
 · have hi2 := id_ne hi
   rw [if_neg hi, uv_with, hue, hxe]
   refine PC.of_va (T := tb0) eqs_ok tb_ok rfl mixed Tryz.func50 rfl rfl (Nat.le_of_ble_eq_true rfl) ?_; intro Γ C WK LP fin h0 hW hC hB hR hLP hfin
   (try (conv => whnf)); (repeat ((first | refine qT ?_ | refine qF ?_ | refine qO ?_ | (with_reducible intro z hz); (first | (replace hz := hz (by omega); subst hz) | subst hz)); (try (conv => whnf))))
   refine hLP _ _ _ Nat (fun k => ⟨[(2, .ptr 0 1 0), (3, .ptr 1 1 0), (4, .ptr 2 1 0), (5, .row 3 1), (6, .imm (.int .i64 (k : Nat)))], [.box 1 [.imm (.int .i64 u.id.x), .imm (.int .i64 u.id.y), .imm (.int .i64 u.id.z), .imm (.int .i64 u.kind), .imm (.str u.label), .imm (.sl 4 (u.head.map wdv)), .imm (.sl 4 (u.words.map wdv)), .imm (.sl 8 (u.kids.map uv))], .box 1 [.imm (.int .i64 x.id.x), .imm (.int .i64 x.id.y), .imm (.int .i64 x.id.z), .imm (.int .i64 x.kind), .imm (.str x.label), .imm (.sl 4 (x.head.map wdv)), .imm (.sl 4 (x.words.map wdv)), .imm (.sl 8 (x.kids.map uv))], .box 1 [.imm (.int .i64 0), .imm (.int .i64 0), .imm (.int .i64 0), .imm (.int .i64 0), .imm (.str ⟨#[]⟩), .imm .nil, .imm .nil, .imm .nil], .row 27 8 1 ((((u.kids.take k).map (putAt x.id (fun y => Ut.withKids x y.kids))).map uv).map .imm)]⟩) (fun k => k ≤ u.kids.length) (fun k => u.kids.length - k) 0 (Nat.zero_le _) (((WeakA.row 3 ((((u.kids.take 0).map (putAt x.id (fun y => Ut.withKids x y.kids))).map uv).map .imm) rfl (by simp))).trans (qSL 4 rfl rfl)) ?_
   intro k hk
   have hho := Nat.lt_or_ge k u.kids.length
   cases hho with
   | inl hlt =>
     obtain ⟨c, hc⟩ : ∃ c, u.kids[k]? = some c := ⟨u.kids[k], List.getElem?_eq_getElem hlt⟩
     have huc := uv_eq c
     have hcl := kid_lt' hc
     have hI := ih c (by omega) (by omega)
     have hRl : ((((u.kids.take k).map (putAt x.id (fun y => Ut.withKids x y.kids))).map uv).map PV.imm).length ≤ k := by
       rw [List.length_map, List.length_map, List.length_map, List.length_take]
       omega
     generalize hy : putAt x.id (fun y => Ut.withKids x y.kids) c = y at hI
     rw [huc, uv_eq y, hxe] at hI
     (try (conv => whnf)); (repeat ((first | refine qT ?_ | refine qF ?_ | refine qO ?_ | (with_reducible intro z hz); (first | (replace hz := hz (by omega); subst hz) | subst hz)); (try (conv => whnf))))
     refine Idx.mk k (uv c) _ rfl (by simp [hc]) (by rw [huc]; try rfl) ?_
     (try (conv => whnf)); (repeat ((first | refine qT ?_ | refine qF ?_ | refine qO ?_ | (with_reducible intro z hz); (first | (replace hz := hz (by omega); subst hz) | subst hz) | (refine CallV.mk _ (hC _ _ _ (PCw.of hI)) (fun js hjs => ?_); subst hjs)); (try (conv => whnf))))
     exact ⟨k + 1, by omega, by dsimp only; omega, ((WeakA.row 3 ((((u.kids.take (k + 1)).map (putAt x.id (fun y => Ut.withKids x y.kids))).map uv).map .imm) rfl (by rw [take_at hc, List.map_append, List.map_append, List.map_append, List.map_cons, List.map_nil, hy, List.map_cons, List.map_nil, uv_eq y]; rfl))).trans ((WeakA.renew 3 1 rfl (by first | omega | (intro _; rw [hk0 _ _ rfl]; exact Nat.le_of_ble_eq_true rfl)) (by repeat (first | exact trivial | refine And.intro (rgL_imms _ _ _ _) ?_ | refine And.intro rfl ?_))).trans (qSL 4 rfl rfl))⟩
   | inr hge =>
     (try (conv => whnf)); (repeat ((first | refine qT ?_ | refine qF ?_ | refine qO ?_ | (with_reducible intro z hz); (first | (replace hz := hz (by omega); subst hz) | subst hz)); (try (conv => whnf))))
     obtain rfl : k = u.kids.length := by omega
     refine Imms.mk ((u.kids.map (putAt x.id (fun y => Ut.withKids x y.kids))).map uv) (by rw [List.take_length]) ?_
     exact hfin _ (ILes.refl _)
theorem rshared_pc (u x : Ut) (hu : u.count ≤ 1000000) (hx : x.count ≤ 1000000) : PC Tryz.prog env0 39 [uv u, uv x] [.bool (x.ids.any fun t => decide (t ∈ u.ids))] := by
 have hAl := (all_pcr x.count x (Nat.le_refl _) (by omega)).pc
 have hn1 : x.ids.length = x.count := by unfold Ut.ids; rw [List.length_map, all_length]
 have hml : (x.ids.map idv).length = x.ids.length := List.length_map _
 have hue := uv_eq u
 have hxe := uv_eq x
 rw [hxe] at hAl
 rw [hue, hxe]
 refine PC.of_va (T := tb0) eqs_ok tb_ok rfl mixed Tryz.func39 rfl rfl (Nat.le_of_ble_eq_true rfl) ?_; intro Γ C WK LP fin h0 hW hC hB hR hLP hfin
 (try (conv => whnf)); (repeat ((first | refine qT ?_ | refine qF ?_ | refine qO ?_ | (with_reducible intro z hz); (first | (replace hz := hz (by omega); subst hz) | subst hz) | (refine CallV.mk _ (hC _ _ _ (PCw.of hAl)) (fun js hjs => ?_); subst hjs)); (try (conv => whnf))))
 refine hLP _ _ _ Nat (fun k => ⟨[(2, .ptr 0 1 0), (5, .imm (.sl 3 (x.ids.map idv))), (6, .imm (.int .i64 (k : Nat)))], [.box 1 [.imm (.int .i64 u.id.x), .imm (.int .i64 u.id.y), .imm (.int .i64 u.id.z), .imm (.int .i64 u.kind), .imm (.str u.label), .imm (.sl 4 (u.head.map wdv)), .imm (.sl 4 (u.words.map wdv)), .imm (.sl 8 (u.kids.map uv))], .box 1 [.imm (.int .i64 x.id.x), .imm (.int .i64 x.id.y), .imm (.int .i64 x.id.z), .imm (.int .i64 x.kind), .imm (.str x.label), .imm (.sl 4 (x.head.map wdv)), .imm (.sl 4 (x.words.map wdv)), .imm (.sl 8 (x.kids.map uv))]]⟩) (fun k => k ≤ x.ids.length ∧ ∀ t ∈ x.ids.take k, t ∉ u.ids) (fun k => x.ids.length - k) 0 ⟨Nat.zero_le _, by simp⟩ (qSL 2 rfl rfl) ?_
 rintro k ⟨hk, hp⟩
 have hho := Nat.lt_or_ge k x.ids.length
 cases hho with
 | inl hlt =>
   obtain ⟨t, ht⟩ : ∃ t, x.ids[k]? = some t := ⟨x.ids[k], List.getElem?_eq_getElem hlt⟩
   have hI := in_pc u t (by omega)
   have hte : idv t = .agg [.int .i64 t.x, .int .i64 t.y, .int .i64 t.z] := rfl
   rw [hue, hte] at hI
   by_cases h1 : t ∈ u.ids
   · rw [decide_eq_true h1] at hI
     have hyes : (x.ids.any fun t => decide (t ∈ u.ids)) = true := List.any_eq_true.2 ⟨t, List.mem_of_getElem? ht, decide_eq_true h1⟩
     rw [hyes] at hfin
     (try (conv => whnf)); (repeat ((first | refine qT ?_ | refine qF ?_ | refine qO ?_ | (with_reducible intro z hz); (first | (replace hz := hz (by omega); subst hz) | subst hz)); (try (conv => whnf))))
     refine Idx.mk k (idv t) _ rfl (by simp [ht]) rfl ?_
     (try (conv => whnf)); (repeat ((first | refine qT ?_ | refine qF ?_ | refine qO ?_ | (with_reducible intro z hz); (first | (replace hz := hz (by omega); subst hz) | subst hz) | (refine CallV.mk _ (hC _ _ _ (PCw.of hI)) (fun js hjs => ?_); subst hjs)); (try (conv => whnf))))
     exact hfin _ (ILes.refl _)
   · rw [decide_eq_false h1] at hI
     (try (conv => whnf)); (repeat ((first | refine qT ?_ | refine qF ?_ | refine qO ?_ | (with_reducible intro z hz); (first | (replace hz := hz (by omega); subst hz) | subst hz)); (try (conv => whnf))))
     refine Idx.mk k (idv t) _ rfl (by simp [ht]) rfl ?_
     (try (conv => whnf)); (repeat ((first | refine qT ?_ | refine qF ?_ | refine qO ?_ | (with_reducible intro z hz); (first | (replace hz := hz (by omega); subst hz) | subst hz) | (refine CallV.mk _ (hC _ _ _ (PCw.of hI)) (fun js hjs => ?_); subst hjs)); (try (conv => whnf))))
     exact ⟨k + 1, ⟨by omega, fun s hs => by
       rw [take_at ht, List.mem_append] at hs
       rcases hs with hs | hs
       · exact hp s hs
       · rw [List.mem_singleton.1 hs]; exact h1⟩, by dsimp only; omega, (qSL 2 rfl rfl)⟩
 | inr hge =>
   obtain rfl : k = x.ids.length := by omega
   rw [List.take_length] at hp
   have hf : (x.ids.any fun t => decide (t ∈ u.ids)) = false := List.any_eq_false.2 fun y hy => by simp [hp y hy]
   rw [hf] at hfin
   (try (conv => whnf)); (repeat ((first | refine qT ?_ | refine qF ?_ | refine qO ?_ | (with_reducible intro z hz); (first | (replace hz := hz (by omega); subst hz) | subst hz)); (try (conv => whnf))))
   exact hfin _ (ILes.refl _)
end Go.Proofs.YtmnbobcgjnickaaGreatDoor.Pt
namespace Go.Proofs.YtmnbobcgjnickaaGreatDoor.Pt
open Go Go.Pv Go.RowKit
set_option linter.unusedSimpArgs false
open Lab Lcs Go.Proofs.YtmnbobcgjnickaaGreatDoor Go.Proofs.YtmnbobcgjnickaaGreatDoor.Pu
set_option maxRecDepth 10000
set_option maxHeartbeats 16000000
theorem wrong_pc (u x : Ut) (p : Trip) (z : Int) (hok : okU u) (hM : Tame u) (hok2 : okU x) (hM2 : Tame x) (hc : u.count ≤ 1024) (hx : x.count ≤ 1024) : PC Tryz.prog env0 14 [uv u, idv p, .int .i64 z, uv x] [.int .i64 (insE u p z x)] := by
 have hS1 := stands_pc u hok hM (by omega)
 have hS2 := stands_pc x hok2 hM2 (by omega)
 have hFi := rfind_pc p u.count u (Nat.le_refl _) (by omega)
 have hNe := rnests_pc (findU p u).kind x.kind
 have hkl := find_kids p u
 have hal := anc_le p u
 have hdc := depth_count x
 have hTa := rtaken_pc (findU p u).kids x.kind x.label x.id (by omega)
 have hml : ((findU p u).kids.map uv).length = (findU p u).kids.length := List.length_map _
 have hDe := deep_pc u p (by omega)
 have hDp := rdepth_pc x.count x (Nat.le_refl _) (by omega) (by omega)
 have hC1 := rcount_pc u.count u (Nat.le_refl _) (by omega)
 have hC2 := rcount_pc x.count x (Nat.le_refl _) (by omega)
 have hSh := rshared_pc u x (by omega) (by omega)
 have hue := uv_eq u
 have hxe := uv_eq x
 have hye : idv x.id = .agg [.int .i64 x.id.x, .int .i64 x.id.y, .int .i64 x.id.z] := rfl
 rw [standsR_eq] at hS1 hS2
 rw [hye] at hTa
 have hpe : placeE u p z x = if foundB p u = false then 4 else if nestsB (findU p u).kind x.kind = false then 9 else if z < 0 ∨ ((findU p u).kids.length : Int) < z then 3 else if takenB (findU p u).kids x.kind x.label = true then 10 else if 64 ≤ (findU p u).kids.length ∨ 1024 < u.count + x.count ∨ 8 < (ancL p u).length + 1 + x.depth then 6 else 0 := rfl
 unfold insE
 rw [edit_stands, edit_stands]
 generalize placeE u p z x = e at hpe ⊢
 generalize (ancL p u).length = a at hDe hal hpe
 generalize findU p u = w at hFi hNe hTa hml hkl hpe
 generalize foundB p u = b at hFi hpe
 generalize nestsB w.kind x.kind = b1 at hNe hpe
 generalize takenB w.kids x.kind x.label = b2 at hTa hpe
 generalize standsB u = s1 at hS1 ⊢
 generalize standsB x = s2 at hS2 ⊢
 generalize (x.ids.any fun t => decide (t ∈ u.ids)) = sh at hSh ⊢
 rw [uv_eq w] at hFi
 rw [hue] at hS1 hFi hDe hC1 hSh ⊢
 rw [hxe] at hS2 hDp hC2 hSh ⊢
 cases s1
 · rw [if_pos rfl]
   refine PC.of_va (T := tb0) eqs_ok tb_ok rfl mixed Tryz.func14 rfl rfl (Nat.le_of_ble_eq_true rfl) ?_; intro Γ C WK LP fin h0 hW hC hB hR hLP hfin
   (try (conv => whnf)); (repeat ((first | refine qT ?_ | refine qF ?_ | refine qO ?_ | (with_reducible intro z hz); (first | (replace hz := hz (by omega); subst hz) | subst hz) | (refine CallV.mk _ (hC _ _ _ (PCw.of hS1)) (fun js hjs => ?_); subst hjs)); (try (conv => whnf))))
   exact hfin _ (ILes.refl _)
 rw [if_neg (by decide)]
 cases s2
 · rw [if_pos rfl]
   refine PC.of_va (T := tb0) eqs_ok tb_ok rfl mixed Tryz.func14 rfl rfl (Nat.le_of_ble_eq_true rfl) ?_; intro Γ C WK LP fin h0 hW hC hB hR hLP hfin
   (try (conv => whnf)); (repeat ((first | refine qT ?_ | refine qF ?_ | refine qO ?_ | (with_reducible intro z hz); (first | (replace hz := hz (by omega); subst hz) | subst hz) | (refine CallV.mk _ (hC _ _ _ (PCw.of hS1)) (fun js hjs => ?_); subst hjs) | (refine CallV.mk _ (hC _ _ _ (PCw.of hS2)) (fun js hjs => ?_); subst hjs)); (try (conv => whnf))))
   exact hfin _ (ILes.refl _)
 rw [if_neg (by decide)]
 by_cases hk0 : x.kind = 0
 · rw [if_pos hk0]
   refine PC.of_va (T := tb0) eqs_ok tb_ok rfl mixed Tryz.func14 rfl rfl (Nat.le_of_ble_eq_true rfl) ?_; intro Γ C WK LP fin h0 hW hC hB hR hLP hfin
   (try (conv => whnf)); (repeat ((first | refine qT ?_ | refine qF ?_ | refine qO ?_ | (with_reducible intro z hz); (first | (replace hz := hz (by omega); subst hz) | subst hz) | (refine CallV.mk _ (hC _ _ _ (PCw.of hS1)) (fun js hjs => ?_); subst hjs) | (refine CallV.mk _ (hC _ _ _ (PCw.of hS2)) (fun js hjs => ?_); subst hjs)); (try (conv => whnf))))
   exact hfin _ (ILes.refl _)
 rw [if_neg hk0]
 cases b
 · rw [if_pos rfl] at hpe
   subst hpe
   rw [if_pos (by decide)]
   refine PC.of_va (T := tb0) eqs_ok tb_ok rfl mixed Tryz.func14 rfl rfl (Nat.le_of_ble_eq_true rfl) ?_; intro Γ C WK LP fin h0 hW hC hB hR hLP hfin
   (try (conv => whnf)); (repeat ((first | refine qT ?_ | refine qF ?_ | refine qO ?_ | (with_reducible intro z hz); (first | (replace hz := hz (by omega); subst hz) | subst hz) | (refine CallV.mk _ (hC _ _ _ (PCw.of hS1)) (fun js hjs => ?_); subst hjs) | (refine CallV.mk _ (hC _ _ _ (PCw.of hS2)) (fun js hjs => ?_); subst hjs) | (refine CallV.mk _ (hC _ _ _ (PCw.of hFi)) (fun js hjs => ?_); subst hjs)); (try (conv => whnf))))
   exact hfin _ (ILes.refl _)
 rw [if_neg (by decide)] at hpe
 cases b1
 · rw [if_pos rfl] at hpe
   subst hpe
   rw [if_pos (by decide)]
   refine PC.of_va (T := tb0) eqs_ok tb_ok rfl mixed Tryz.func14 rfl rfl (Nat.le_of_ble_eq_true rfl) ?_; intro Γ C WK LP fin h0 hW hC hB hR hLP hfin
   (try (conv => whnf)); (repeat ((first | refine qT ?_ | refine qF ?_ | refine qO ?_ | (with_reducible intro z hz); (first | (replace hz := hz (by omega); subst hz) | subst hz) | (refine CallV.mk _ (hC _ _ _ (PCw.of hS1)) (fun js hjs => ?_); subst hjs) | (refine CallV.mk _ (hC _ _ _ (PCw.of hS2)) (fun js hjs => ?_); subst hjs) | (refine CallV.mk _ (hC _ _ _ (PCw.of hFi)) (fun js hjs => ?_); subst hjs) | (refine CallV.mk _ (hC _ _ _ (PCw.of hNe)) (fun js hjs => ?_); subst hjs)); (try (conv => whnf))))
   exact hfin _ (ILes.refl _)
 rw [if_neg (by decide)] at hpe
 by_cases hz1 : z < 0
 · rw [if_pos (Or.inl hz1)] at hpe
   subst hpe
   rw [if_pos (by decide)]
   refine PC.of_va (T := tb0) eqs_ok tb_ok rfl mixed Tryz.func14 rfl rfl (Nat.le_of_ble_eq_true rfl) ?_; intro Γ C WK LP fin h0 hW hC hB hR hLP hfin
   (try (conv => whnf)); (repeat ((first | refine qT ?_ | refine qF ?_ | refine qO ?_ | (with_reducible intro z hz); (first | (replace hz := hz (by omega); subst hz) | subst hz) | (refine CallV.mk _ (hC _ _ _ (PCw.of hS1)) (fun js hjs => ?_); subst hjs) | (refine CallV.mk _ (hC _ _ _ (PCw.of hS2)) (fun js hjs => ?_); subst hjs) | (refine CallV.mk _ (hC _ _ _ (PCw.of hFi)) (fun js hjs => ?_); subst hjs) | (refine CallV.mk _ (hC _ _ _ (PCw.of hNe)) (fun js hjs => ?_); subst hjs)); (try (conv => whnf))))
   exact hfin _ (ILes.refl _)
 by_cases hz2 : (w.kids.length : Int) < z
 · rw [if_pos (Or.inr hz2)] at hpe
   subst hpe
   rw [if_pos (by decide)]
   refine PC.of_va (T := tb0) eqs_ok tb_ok rfl mixed Tryz.func14 rfl rfl (Nat.le_of_ble_eq_true rfl) ?_; intro Γ C WK LP fin h0 hW hC hB hR hLP hfin
   (try (conv => whnf)); (repeat ((first | refine qT ?_ | refine qF ?_ | refine qO ?_ | (with_reducible intro z hz); (first | (replace hz := hz (by omega); subst hz) | subst hz) | (refine CallV.mk _ (hC _ _ _ (PCw.of hS1)) (fun js hjs => ?_); subst hjs) | (refine CallV.mk _ (hC _ _ _ (PCw.of hS2)) (fun js hjs => ?_); subst hjs) | (refine CallV.mk _ (hC _ _ _ (PCw.of hFi)) (fun js hjs => ?_); subst hjs) | (refine CallV.mk _ (hC _ _ _ (PCw.of hNe)) (fun js hjs => ?_); subst hjs)); (try (conv => whnf))))
   exact hfin _ (ILes.refl _)
 rw [if_neg (fun h => h.elim hz1 hz2)] at hpe
 cases b2
 rotate_left
 · rw [if_pos rfl] at hpe
   subst hpe
   rw [if_pos (by decide)]
   refine PC.of_va (T := tb0) eqs_ok tb_ok rfl mixed Tryz.func14 rfl rfl (Nat.le_of_ble_eq_true rfl) ?_; intro Γ C WK LP fin h0 hW hC hB hR hLP hfin
   (try (conv => whnf)); (repeat ((first | refine qT ?_ | refine qF ?_ | refine qO ?_ | (with_reducible intro z hz); (first | (replace hz := hz (by omega); subst hz) | subst hz) | (refine CallV.mk _ (hC _ _ _ (PCw.of hS1)) (fun js hjs => ?_); subst hjs) | (refine CallV.mk _ (hC _ _ _ (PCw.of hS2)) (fun js hjs => ?_); subst hjs) | (refine CallV.mk _ (hC _ _ _ (PCw.of hFi)) (fun js hjs => ?_); subst hjs) | (refine CallV.mk _ (hC _ _ _ (PCw.of hNe)) (fun js hjs => ?_); subst hjs) | (refine CallV.mk _ (hC _ _ _ (PCw.of hTa)) (fun js hjs => ?_); subst hjs)); (try (conv => whnf))))
   exact hfin _ (ILes.refl _)
 rw [if_neg (by decide)] at hpe
 by_cases k1 : 64 ≤ w.kids.length
 · rw [if_pos (Or.inl k1)] at hpe
   subst hpe
   rw [if_pos (by decide)]
   refine PC.of_va (T := tb0) eqs_ok tb_ok rfl mixed Tryz.func14 rfl rfl (Nat.le_of_ble_eq_true rfl) ?_; intro Γ C WK LP fin h0 hW hC hB hR hLP hfin
   (try (conv => whnf)); (repeat ((first | refine qT ?_ | refine qF ?_ | refine qO ?_ | (with_reducible intro z hz); (first | (replace hz := hz (by omega); subst hz) | subst hz) | (refine CallV.mk _ (hC _ _ _ (PCw.of hS1)) (fun js hjs => ?_); subst hjs) | (refine CallV.mk _ (hC _ _ _ (PCw.of hS2)) (fun js hjs => ?_); subst hjs) | (refine CallV.mk _ (hC _ _ _ (PCw.of hFi)) (fun js hjs => ?_); subst hjs) | (refine CallV.mk _ (hC _ _ _ (PCw.of hNe)) (fun js hjs => ?_); subst hjs) | (refine CallV.mk _ (hC _ _ _ (PCw.of hTa)) (fun js hjs => ?_); subst hjs)); (try (conv => whnf))))
   exact hfin _ (ILes.refl _)
 by_cases k2 : 8 < a + 1 + x.depth
 · rw [if_pos (Or.inr (Or.inr k2))] at hpe
   subst hpe
   rw [if_pos (by decide)]
   refine PC.of_va (T := tb0) eqs_ok tb_ok rfl mixed Tryz.func14 rfl rfl (Nat.le_of_ble_eq_true rfl) ?_; intro Γ C WK LP fin h0 hW hC hB hR hLP hfin
   (try (conv => whnf)); (repeat ((first | refine qT ?_ | refine qF ?_ | refine qO ?_ | (with_reducible intro z hz); (first | (replace hz := hz (by omega); subst hz) | subst hz) | (refine CallV.mk _ (hC _ _ _ (PCw.of hS1)) (fun js hjs => ?_); subst hjs) | (refine CallV.mk _ (hC _ _ _ (PCw.of hS2)) (fun js hjs => ?_); subst hjs) | (refine CallV.mk _ (hC _ _ _ (PCw.of hFi)) (fun js hjs => ?_); subst hjs) | (refine CallV.mk _ (hC _ _ _ (PCw.of hNe)) (fun js hjs => ?_); subst hjs) | (refine CallV.mk _ (hC _ _ _ (PCw.of hTa)) (fun js hjs => ?_); subst hjs) | (refine CallV.mk _ (hC _ _ _ (PCw.of hDe)) (fun js hjs => ?_); subst hjs) | (refine CallV.mk _ (hC _ _ _ (PCw.of hDp)) (fun js hjs => ?_); subst hjs)); (try (conv => whnf))))
   exact hfin _ (ILes.refl _)
 by_cases k3 : 1024 < u.count + x.count
 · rw [if_pos (Or.inr (Or.inl k3))] at hpe
   subst hpe
   rw [if_pos (by decide)]
   refine PC.of_va (T := tb0) eqs_ok tb_ok rfl mixed Tryz.func14 rfl rfl (Nat.le_of_ble_eq_true rfl) ?_; intro Γ C WK LP fin h0 hW hC hB hR hLP hfin
   (try (conv => whnf)); (repeat ((first | refine qT ?_ | refine qF ?_ | refine qO ?_ | (with_reducible intro z hz); (first | (replace hz := hz (by omega); subst hz) | subst hz) | (refine CallV.mk _ (hC _ _ _ (PCw.of hS1)) (fun js hjs => ?_); subst hjs) | (refine CallV.mk _ (hC _ _ _ (PCw.of hS2)) (fun js hjs => ?_); subst hjs) | (refine CallV.mk _ (hC _ _ _ (PCw.of hFi)) (fun js hjs => ?_); subst hjs) | (refine CallV.mk _ (hC _ _ _ (PCw.of hNe)) (fun js hjs => ?_); subst hjs) | (refine CallV.mk _ (hC _ _ _ (PCw.of hTa)) (fun js hjs => ?_); subst hjs) | (refine CallV.mk _ (hC _ _ _ (PCw.of hDe)) (fun js hjs => ?_); subst hjs) | (refine CallV.mk _ (hC _ _ _ (PCw.of hDp)) (fun js hjs => ?_); subst hjs) | (refine CallV.mk _ (hC _ _ _ (PCw.of hC1)) (fun js hjs => ?_); subst hjs) | (refine CallV.mk _ (hC _ _ _ (PCw.of hC2)) (fun js hjs => ?_); subst hjs)); (try (conv => whnf))))
   exact hfin _ (ILes.refl _)
 rw [if_neg (fun h => h.elim k1 fun h => h.elim k3 k2)] at hpe
 subst hpe
 rw [if_neg (by decide)]
 cases sh
 · rw [if_neg (by decide)]
   refine PC.of_va (T := tb0) eqs_ok tb_ok rfl mixed Tryz.func14 rfl rfl (Nat.le_of_ble_eq_true rfl) ?_; intro Γ C WK LP fin h0 hW hC hB hR hLP hfin
   (try (conv => whnf)); (repeat ((first | refine qT ?_ | refine qF ?_ | refine qO ?_ | (with_reducible intro z hz); (first | (replace hz := hz (by omega); subst hz) | subst hz) | (refine CallV.mk _ (hC _ _ _ (PCw.of hS1)) (fun js hjs => ?_); subst hjs) | (refine CallV.mk _ (hC _ _ _ (PCw.of hS2)) (fun js hjs => ?_); subst hjs) | (refine CallV.mk _ (hC _ _ _ (PCw.of hFi)) (fun js hjs => ?_); subst hjs) | (refine CallV.mk _ (hC _ _ _ (PCw.of hNe)) (fun js hjs => ?_); subst hjs) | (refine CallV.mk _ (hC _ _ _ (PCw.of hTa)) (fun js hjs => ?_); subst hjs) | (refine CallV.mk _ (hC _ _ _ (PCw.of hDe)) (fun js hjs => ?_); subst hjs) | (refine CallV.mk _ (hC _ _ _ (PCw.of hDp)) (fun js hjs => ?_); subst hjs) | (refine CallV.mk _ (hC _ _ _ (PCw.of hC1)) (fun js hjs => ?_); subst hjs) | (refine CallV.mk _ (hC _ _ _ (PCw.of hC2)) (fun js hjs => ?_); subst hjs) | (refine CallV.mk _ (hC _ _ _ (PCw.of hSh)) (fun js hjs => ?_); subst hjs)); (try (conv => whnf))))
   exact hfin _ (ILes.refl _)
 · rw [if_pos rfl]
   refine PC.of_va (T := tb0) eqs_ok tb_ok rfl mixed Tryz.func14 rfl rfl (Nat.le_of_ble_eq_true rfl) ?_; intro Γ C WK LP fin h0 hW hC hB hR hLP hfin
   (try (conv => whnf)); (repeat ((first | refine qT ?_ | refine qF ?_ | refine qO ?_ | (with_reducible intro z hz); (first | (replace hz := hz (by omega); subst hz) | subst hz) | (refine CallV.mk _ (hC _ _ _ (PCw.of hS1)) (fun js hjs => ?_); subst hjs) | (refine CallV.mk _ (hC _ _ _ (PCw.of hS2)) (fun js hjs => ?_); subst hjs) | (refine CallV.mk _ (hC _ _ _ (PCw.of hFi)) (fun js hjs => ?_); subst hjs) | (refine CallV.mk _ (hC _ _ _ (PCw.of hNe)) (fun js hjs => ?_); subst hjs) | (refine CallV.mk _ (hC _ _ _ (PCw.of hTa)) (fun js hjs => ?_); subst hjs) | (refine CallV.mk _ (hC _ _ _ (PCw.of hDe)) (fun js hjs => ?_); subst hjs) | (refine CallV.mk _ (hC _ _ _ (PCw.of hDp)) (fun js hjs => ?_); subst hjs) | (refine CallV.mk _ (hC _ _ _ (PCw.of hC1)) (fun js hjs => ?_); subst hjs) | (refine CallV.mk _ (hC _ _ _ (PCw.of hC2)) (fun js hjs => ?_); subst hjs) | (refine CallV.mk _ (hC _ _ _ (PCw.of hSh)) (fun js hjs => ?_); subst hjs)); (try (conv => whnf))))
   exact hfin _ (ILes.refl _)
theorem bothI_pc (u x : Ut) (p : Trip) (z : Int) (hok : okU u) (hM : Tame u) (hok2 : okU x) (hM2 : Tame x) (hc : u.count ≤ 1000) (hx : x.count ≤ 1000) : ∃ (v : Ut) (e : Int), okU v ∧ PC Tryz.prog env0 10 [uv u, idv p, .int .i64 z, uv x] [uv v, .int .i64 e] ∧ PC Tryz.prog env0 11 [uv u, idv p, .int .i64 z, uv x] [uv v, .int .i64 e] := by
 have hWr := wrong_pc u x p z hok hM hok2 hM2 (by omega) (by omega)
 have hIe := ie_pc u x p z hok hM hok2 hM2 (by omega) (by omega)
 have hue := uv_eq u
 have hxe := uv_eq x
 by_cases h0 : insE u p z x = 0
 · obtain ⟨q, r, j, rfl, m⟩ := ins_made u x p z hok hM hok2 hM2 (by omega) (by omega) h0
   refine ⟨_, 0, m.ok, insert_ok_pc u p j x _ h0 hIe m.kid, ?_⟩
   have hGr := grown_pc p j x u.count u (Nat.le_refl _) (by omega) (fun w hw e => by rw [m.one w hw e]; exact m.le)
   rw [h0] at hWr
   generalize putAt p (insAt j x) u = v at hGr ⊢
   rw [uv_eq v] at hGr ⊢
   rw [hue, hxe] at hWr hGr ⊢
   refine PC.of_va (T := tb0) eqs_ok tb_ok rfl mixed Tryz.func11 rfl rfl (Nat.le_of_ble_eq_true rfl) ?_; intro Γ C WK LP fin h0 hW hC hB hR hLP hfin
   (try (conv => whnf)); (repeat ((first | refine qT ?_ | refine qF ?_ | refine qO ?_ | (with_reducible intro z hz); (first | (replace hz := hz (by omega); subst hz) | subst hz) | (refine CallV.mk _ (hC _ _ _ (PCw.of hWr)) (fun js hjs => ?_); subst hjs) | (refine CallV.mk _ (hC _ _ _ (PCw.of hGr)) (fun js hjs => ?_); subst hjs)); (try (conv => whnf))))
   exact hfin _ (ILes.refl _)
 · refine ⟨_, _, zero_ok, insert_no_pc u p z x _ h0 hIe, ?_⟩
   generalize insE u p z x = e at hWr h0 ⊢
   rw [hue, hxe] at hWr ⊢
   refine PC.of_va (T := tb0) eqs_ok tb_ok rfl mixed Tryz.func11 rfl rfl (Nat.le_of_ble_eq_true rfl) ?_; intro Γ C WK LP fin h0 hW hC hB hR hLP hfin
   (try (conv => whnf)); (repeat ((first | refine qT ?_ | refine qF ?_ | refine qO ?_ | (with_reducible intro z hz); (first | (replace hz := hz (by omega); subst hz) | subst hz) | (refine CallV.mk _ (hC _ _ _ (PCw.of hWr)) (fun js hjs => ?_); subst hjs)); (try (conv => whnf))))
   refine hfin _ ?_
   exact .cons zero_le (.refl _)
end Go.Proofs.YtmnbobcgjnickaaGreatDoor.Pt
namespace Go.Proofs.YtmnbobcgjnickaaGreatDoor.Pt
open Go Go.Pv Go.RowKit
set_option linter.unusedSimpArgs false
open Lab Lcs Go.Proofs.YtmnbobcgjnickaaGreatDoor Go.Proofs.YtmnbobcgjnickaaGreatDoor.Pu
set_option maxRecDepth 10000
set_option maxHeartbeats 16000000
theorem inserts_pc (u : Ut) (hok : okU u) (p : Trip) (z : Int) (x : Ut) (hok2 : okU x) : PC Tryz.prog env0 3 [uv u, idv p, .int .i64 z, uv x] [.bool true] := by
 have hF1 := few_pc u 30 hok (by omega) (by omega)
 have hF2 := few_pc x 30 hok2 (by omega) (by omega)
 have hue := uv_eq u
 have hxe := uv_eq x
 have hAw := awake8_pc
 by_cases hf1 : fewU u 30 = true
 rotate_left
 · rw [Bool.not_eq_true] at hf1
   rw [hf1] at hF1
   rw [hue] at hF1 ⊢
   rw [hxe]
   refine PC.of_va (T := tb0) eqs_ok tb_ok rfl mixed Tryz.func3 rfl rfl (Nat.le_of_ble_eq_true rfl) ?_; intro Γ C WK LP fin h0 hW hC hB hR hLP hfin
   (try (conv => whnf)); (repeat ((first | refine qT ?_ | refine qF ?_ | refine qO ?_ | (with_reducible intro z hz); (first | (replace hz := hz (by omega); subst hz) | subst hz) | (refine CallV.mk _ (hC _ _ _ (PCw.of hF1)) (fun js hjs => ?_); subst hjs) | (refine CallV.mk _ (hC _ _ _ (PCw.of hAw)) (fun js hjs => ?_); subst hjs)); (try (conv => whnf))))
   exact hfin _ (ILes.refl _)
 by_cases hf2 : fewU x 30 = true
 rotate_left
 · rw [Bool.not_eq_true] at hf2
   rw [hf1] at hF1
   rw [hf2] at hF2
   rw [hue] at hF1 ⊢
   rw [hxe] at hF2 ⊢
   refine PC.of_va (T := tb0) eqs_ok tb_ok rfl mixed Tryz.func3 rfl rfl (Nat.le_of_ble_eq_true rfl) ?_; intro Γ C WK LP fin h0 hW hC hB hR hLP hfin
   (try (conv => whnf)); (repeat ((first | refine qT ?_ | refine qF ?_ | refine qO ?_ | (with_reducible intro z hz); (first | (replace hz := hz (by omega); subst hz) | subst hz) | (refine CallV.mk _ (hC _ _ _ (PCw.of hF1)) (fun js hjs => ?_); subst hjs) | (refine CallV.mk _ (hC _ _ _ (PCw.of hF2)) (fun js hjs => ?_); subst hjs) | (refine CallV.mk _ (hC _ _ _ (PCw.of hAw)) (fun js hjs => ?_); subst hjs)); (try (conv => whnf))))
   exact hfin _ (ILes.refl _)
 rw [hf1] at hF1
 rw [hf2] at hF2
 obtain ⟨hc, hM, hs⟩ := few30 hf1
 obtain ⟨hc2, hM2, hs2⟩ := few30 hf2
 obtain ⟨v, e, o1, hIn, hRi⟩ := bothI_pc u x p z hok hM hok2 hM2 (by omega) (by omega)
 have hS := lsame_pc v v e e o1 o1
 rw [decide_eq_true rfl, decide_eq_true rfl] at hS
 have hW0 := wrong_pc u x p 0 hok hM hok2 hM2 (by omega) (by omega)
 have hCi := canInsert_pc u p x _ (ie_pc u x p 0 hok hM hok2 hM2 (by omega) (by omega))
 generalize insE u p 0 x = e0 at hW0 hCi
 rw [uv_eq v] at hIn hRi hS
 rw [hue] at hF1 hIn hRi hW0 hCi ⊢
 rw [hxe] at hF2 hIn hRi hW0 hCi ⊢
 refine PC.of_va (T := tb0) eqs_ok tb_ok rfl mixed Tryz.func3 rfl rfl (Nat.le_of_ble_eq_true rfl) ?_; intro Γ C WK LP fin h0 hW hC hB hR hLP hfin
 (try (conv => whnf)); (repeat ((first | refine qT ?_ | refine qF ?_ | refine qO ?_ | (with_reducible intro z hz); (first | (replace hz := hz (by omega); subst hz) | subst hz) | (refine CallV.mk _ (hC _ _ _ (PCw.of hF1)) (fun js hjs => ?_); subst hjs) | (refine CallV.mk _ (hC _ _ _ (PCw.of hF2)) (fun js hjs => ?_); subst hjs) | (refine CallV.mk _ (hC _ _ _ (PCw.of hIn)) (fun js hjs => ?_); subst hjs) | (refine CallV.mk _ (hC _ _ _ (PCw.of hRi)) (fun js hjs => ?_); subst hjs) | (refine CallV.mk _ (hC _ _ _ (PCw.of hS)) (fun js hjs => ?_); subst hjs) | (refine CallV.mk _ (hC _ _ _ (PCw.of hCi)) (fun js hjs => ?_); subst hjs) | (refine CallV.mk _ (hC _ _ _ (PCw.of hW0)) (fun js hjs => ?_); subst hjs) | (refine CallV.mk _ (hC _ _ _ (PCw.of hAw)) (fun js hjs => ?_); subst hjs)); (try (conv => whnf))))
 exact hfin _ (ILes.refl _)
end Go.Proofs.YtmnbobcgjnickaaGreatDoor.Pt
namespace Go.Proofs.YtmnbobcgjnickaaGreatDoor.Pt
open Go Go.Pv Go.Proofs.YtmnbobcgjnickaaGreatDoor Go.Proofs.YtmnbobcgjnickaaGreatDoor.Pu Lab Lcs Go.RowKit
theorem insertsL (u : Ut) (h : Fit u) (p : Trip) (_hp : p.ok) (z : Int) (x : Ut) (h2 : Fit x) : PC Tryz.prog env0 3 [uv u, idv p, .int .i64 z, uv x] [.bool true] := inserts_pc u h.ok p z x h2.ok
end Go.Proofs.YtmnbobcgjnickaaGreatDoor.Pt
