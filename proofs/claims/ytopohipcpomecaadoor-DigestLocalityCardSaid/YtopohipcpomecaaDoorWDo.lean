/-
  The reference's Apart.
-/
import Derived.Test.YtopohipcpomecaaDoorWDn
import Derived.Test.YtopohipcpomecaaDoorWDj
namespace Go.Proofs.YtopohipcpomecaaDoor.Pd
open Go Go.Pv Go.RowKit Go.Proofs.YtopohipcpomecaaDoor.Pu Go.Proofs.YtopohipcpomecaaDoor.Pb
set_option linter.unusedSimpArgs false
open Lab Lcs Go.Proofs.YtopohipcpomecaaDoor
set_option maxRecDepth 10000
set_option maxHeartbeats 16000000
def sameP (X Y : List Ut) (t : Trip) : Bool := match firstU t X, firstU t Y with
 | some p, some q => decide (treeE true p = treeE true q)
 | _, _ => false
def apartK (X Y : List Ut) (L : List Ut) : List Trip := L.foldl (fun out x => if sameP X Y x.id = true then out else putP x.id out) []
theorem first_mem {t : Trip} : ∀ {l : List Ut} {p : Ut}, firstU t l = some p → p ∈ l
 | [], _, h => by cases h
 | x :: r, p, h => by
   rw [firstU] at h
   split at h
   · cases h; exact List.mem_cons_self
   · exact List.mem_cons_of_mem _ (first_mem h)
theorem apart_take {X Y L : List Ut} {k : Nat} {x : Ut} (h : L[k]? = some x) : apartK X Y (L.take (k + 1)) = if sameP X Y x.id = true then apartK X Y (L.take k) else putP x.id (apartK X Y (L.take k)) := by
 unfold apartK
 rw [take_at h, List.foldl_append, List.foldl_cons, List.foldl_nil]
theorem rapart_pc (a b : Ut) (ha : a.count ≤ 100000) (hb : b.count ≤ 100000) (hfa : ∀ p ∈ a.all, FitD p) (hfb : ∀ p ∈ b.all, FitD p) (hlen : ∀ k, (apartK a.all b.all ((a.all ++ b.all).take k)).length ≤ 1000000) : PC Tryd.prog envH 21 [uv a, uv b] [.sl 3 ((apartK a.all b.all (a.all ++ b.all)).map idv)] := by
 have hae := uv_eq a
 have hbe := uv_eq b
 have hUa := units_pc _ a (Nat.le_refl _) (by omega)
 have hUb := units_pc _ b (Nat.le_refl _) (by omega)
 have hla : (a.all.map uv).length = a.count := by rw [List.length_map, all_length]
 have hlb : (b.all.map uv).length = b.count := by rw [List.length_map, all_length]
 have hll : (a.all ++ b.all).length = a.count + b.count := by rw [List.length_append, all_length, all_length]
 rw [hae] at hUa ⊢
 rw [hbe] at hUb ⊢
 refine PC.of_va (T := tbi) eqs_ok tbi_ok rfl mixed Tryd.func21 rfl rfl (Nat.le_of_ble_eq_true rfl) ?_; intro Γ C WK LP fin h0 hW hC hB hR hLP hfin
 (try (conv => whnf)); (repeat ((first | refine qT ?_ | refine qF ?_ | refine qO ?_ | (with_reducible intro z hz); (first | (replace hz := hz (by omega); subst hz) | subst hz) | (refine CallV.mk _ (hC _ _ _ (PCw.of hUa)) (fun js hjs => ?_); subst hjs) | (refine CallV.mk _ (hC _ _ _ (PCw.of hUb)) (fun js hjs => ?_); subst hjs)); (try (conv => whnf))))
 refine Owe.mk (by simp only [List.length_nil]; unfold most; omega) ?_
 (try (conv => whnf)); (repeat ((first | refine qT ?_ | refine qF ?_ | refine qO ?_ | (with_reducible intro z hz); (first | (replace hz := hz (by omega); subst hz) | subst hz)); (try (conv => whnf))))
 refine Owe.mk (by simp only [List.nil_append, List.length_map]; rw [all_length, all_length]; unfold most; omega) ?_
 (try (conv => whnf)); (repeat ((first | refine qT ?_ | refine qF ?_ | refine qO ?_ | (with_reducible intro z hz); (first | (replace hz := hz (by omega); subst hz) | subst hz)); (try (conv => whnf))))
 refine hLP _ _ _ Nat (fun k => ⟨[(5, .imm (.sl 8 (a.all.map uv))), (6, .imm (.sl 8 (b.all.map uv))), (7, .imm (.sl 8 ((a.all ++ b.all).map uv))), (8, .imm (.sl 3 ((apartK a.all b.all ((a.all ++ b.all).take k)).map idv))), (9, .imm (.int .i64 (k : Nat)))], []⟩) (fun k => k ≤ (a.all ++ b.all).length) (fun k => (a.all ++ b.all).length - k) 0 (Nat.zero_le _) ((WeakA.row 4 ((((a.all ++ b.all).map uv).map .imm)) rfl (by simp)).trans ((WeakA.frozen 7 ([]) rfl (by first | rfl | simp) (ILe.refl _) (by repeat (first | exact trivial | refine And.intro (fzL_imm _ _ _ _) ?_ | refine And.intro rfl ?_))).trans ((WeakA.frozen 4 ((a.all ++ b.all).map uv) rfl (by first | rfl | simp) (ILe.refl _) (by repeat (first | exact trivial | refine And.intro (fzL_imm _ _ _ _) ?_ | refine And.intro rfl ?_))).trans (qSL 0 rfl rfl)))) ?_
 intro k hk
 have hho := Nat.lt_or_ge k (a.all ++ b.all).length
 have hml : ((a.all ++ b.all).map uv).length = (a.all ++ b.all).length := List.length_map _
 have hle := hlen k
 cases hho with
 | inl hlt =>
   refine (?_ : ∀ Q : Exit → AS → Prop, vcS _ _ _ _ _ _ _ (loopQA _ _ _ _ _ _ Q)) _; intro Q
   obtain ⟨x, hx⟩ : ∃ x, (a.all ++ b.all)[k]? = some x := ⟨(a.all ++ b.all)[k], List.getElem?_eq_getElem hlt⟩
   have hux := uv_eq x
   have hat := apart_take (X := a.all) (Y := b.all) hx
   have hFa : PC Tryd.prog envH 41 [.sl 8 (a.all.map uv), .agg [.int .i64 x.id.x, .int .i64 x.id.y, .int .i64 x.id.z]] _ := first_pc a.all x.id (by rw [all_length]; omega)
   have hFb : PC Tryd.prog envH 41 [.sl 8 (b.all.map uv), .agg [.int .i64 x.id.x, .int .i64 x.id.y, .int .i64 x.id.z]] _ := first_pc b.all x.id (by rw [all_length]; omega)
   have hPt : PC Tryd.prog envH 42 [.sl 3 ((apartK a.all b.all ((a.all ++ b.all).take k)).map idv), .agg [.int .i64 x.id.x, .int .i64 x.id.y, .int .i64 x.id.z]] _ := put_pc (apartK a.all b.all ((a.all ++ b.all).take k)) x.id hle
   generalize apartK a.all b.all ((a.all ++ b.all).take k) = O at *
   unfold sameP at hat
   cases hfa1 : firstU x.id a.all with
   | none =>
     cases hfb1 : firstU x.id b.all with
     | none =>
       rw [hfa1] at hFa hat
       rw [hfb1] at hFb
       dsimp only at hat
       rw [if_neg (by simp)] at hat
       dsimp only [firstR] at hFa hFb
       (try (conv => whnf)); (repeat ((first | refine qT ?_ | refine qF ?_ | refine qO ?_ | (with_reducible intro z hz); (first | (replace hz := hz (by omega); subst hz) | subst hz)); (try (conv => whnf))))
       refine Idx.mk k (uv x) _ rfl (by rw [List.getElem?_map, hx]; rfl) (by rw [hux]; try rfl) ?_
       (try (conv => whnf)); (repeat ((first | refine qT ?_ | refine qF ?_ | refine qO ?_ | (with_reducible intro z hz); (first | (replace hz := hz (by omega); subst hz) | subst hz) | (refine CallV.mk _ (hC _ _ _ (PCw.of hFa)) (fun js hjs => ?_); subst hjs)); (try (conv => whnf))))
       refine Idx.mk k (uv x) _ rfl (by rw [List.getElem?_map, hx]; rfl) (by rw [hux]; try rfl) ?_
       (try (conv => whnf)); (repeat ((first | refine qT ?_ | refine qF ?_ | refine qO ?_ | (with_reducible intro z hz); (first | (replace hz := hz (by omega); subst hz) | subst hz) | (refine CallV.mk _ (hC _ _ _ (PCw.of hFb)) (fun js hjs => ?_); subst hjs)); (try (conv => whnf))))
       refine Idx.mk k (uv x) _ rfl (by rw [List.getElem?_map, hx]; rfl) (by rw [hux]; try rfl) ?_
       (try (conv => whnf)); (repeat ((first | refine qT ?_ | refine qF ?_ | refine qO ?_ | (with_reducible intro z hz); (first | (replace hz := hz (by omega); subst hz) | subst hz) | (refine CallV.mk _ (hC _ _ _ (PCw.of hPt)) (fun js hjs => ?_); subst hjs)); (try (conv => whnf))))
       refine ⟨k + 1, by omega, by dsimp only; omega, ?_⟩
       dsimp only []
       rw [hat]
       exact (qSL 0 rfl rfl)
     | some q =>
       have hqe := uv_eq q
       rw [hfa1] at hFa hat
       rw [hfb1] at hFb
       dsimp only at hat
       rw [if_neg (by simp)] at hat
       dsimp only [firstR] at hFa hFb
       rw [hqe] at hFb
       (try (conv => whnf)); (repeat ((first | refine qT ?_ | refine qF ?_ | refine qO ?_ | (with_reducible intro z hz); (first | (replace hz := hz (by omega); subst hz) | subst hz)); (try (conv => whnf))))
       refine Idx.mk k (uv x) _ rfl (by rw [List.getElem?_map, hx]; rfl) (by rw [hux]; try rfl) ?_
       (try (conv => whnf)); (repeat ((first | refine qT ?_ | refine qF ?_ | refine qO ?_ | (with_reducible intro z hz); (first | (replace hz := hz (by omega); subst hz) | subst hz) | (refine CallV.mk _ (hC _ _ _ (PCw.of hFa)) (fun js hjs => ?_); subst hjs)); (try (conv => whnf))))
       refine Idx.mk k (uv x) _ rfl (by rw [List.getElem?_map, hx]; rfl) (by rw [hux]; try rfl) ?_
       (try (conv => whnf)); (repeat ((first | refine qT ?_ | refine qF ?_ | refine qO ?_ | (with_reducible intro z hz); (first | (replace hz := hz (by omega); subst hz) | subst hz) | (refine CallV.mk _ (hC _ _ _ (PCw.of hFb)) (fun js hjs => ?_); subst hjs)); (try (conv => whnf))))
       refine Idx.mk k (uv x) _ rfl (by rw [List.getElem?_map, hx]; rfl) (by rw [hux]; try rfl) ?_
       (try (conv => whnf)); (repeat ((first | refine qT ?_ | refine qF ?_ | refine qO ?_ | (with_reducible intro z hz); (first | (replace hz := hz (by omega); subst hz) | subst hz) | (refine CallV.mk _ (hC _ _ _ (PCw.of hPt)) (fun js hjs => ?_); subst hjs)); (try (conv => whnf))))
       refine ⟨k + 1, by omega, by dsimp only; omega, ?_⟩
       dsimp only []
       rw [hat]
       exact (qSL 0 rfl rfl)
   | some p =>
     have hpe := uv_eq p
     have hWp := rwhole_pc _ p (Nat.le_refl _) (hfa p (first_mem hfa1))
     rw [hpe] at hWp
     cases hfb1 : firstU x.id b.all with
     | none =>
       rw [hfa1] at hFa hat
       rw [hfb1] at hFb hat
       dsimp only at hat
       rw [if_neg (by simp)] at hat
       dsimp only [firstR] at hFa hFb
       rw [hpe] at hFa
       (try (conv => whnf)); (repeat ((first | refine qT ?_ | refine qF ?_ | refine qO ?_ | (with_reducible intro z hz); (first | (replace hz := hz (by omega); subst hz) | subst hz)); (try (conv => whnf))))
       refine Idx.mk k (uv x) _ rfl (by rw [List.getElem?_map, hx]; rfl) (by rw [hux]; try rfl) ?_
       (try (conv => whnf)); (repeat ((first | refine qT ?_ | refine qF ?_ | refine qO ?_ | (with_reducible intro z hz); (first | (replace hz := hz (by omega); subst hz) | subst hz) | (refine CallV.mk _ (hC _ _ _ (PCw.of hFa)) (fun js hjs => ?_); subst hjs)); (try (conv => whnf))))
       refine Idx.mk k (uv x) _ rfl (by rw [List.getElem?_map, hx]; rfl) (by rw [hux]; try rfl) ?_
       (try (conv => whnf)); (repeat ((first | refine qT ?_ | refine qF ?_ | refine qO ?_ | (with_reducible intro z hz); (first | (replace hz := hz (by omega); subst hz) | subst hz) | (refine CallV.mk _ (hC _ _ _ (PCw.of hFb)) (fun js hjs => ?_); subst hjs)); (try (conv => whnf))))
       refine Idx.mk k (uv x) _ rfl (by rw [List.getElem?_map, hx]; rfl) (by rw [hux]; try rfl) ?_
       (try (conv => whnf)); (repeat ((first | refine qT ?_ | refine qF ?_ | refine qO ?_ | (with_reducible intro z hz); (first | (replace hz := hz (by omega); subst hz) | subst hz) | (refine CallV.mk _ (hC _ _ _ (PCw.of hPt)) (fun js hjs => ?_); subst hjs)); (try (conv => whnf))))
       refine ⟨k + 1, by omega, by dsimp only; omega, ?_⟩
       dsimp only []
       rw [hat]
       exact (qSL 0 rfl rfl)
     | some q =>
       have hqe := uv_eq q
       have hWq := rwhole_pc _ q (Nat.le_refl _) (hfb q (first_mem hfb1))
       rw [hqe] at hWq
       rw [hfa1] at hFa hat
       rw [hfb1] at hFb hat
       dsimp only at hat
       dsimp only [firstR] at hFa hFb
       rw [hpe] at hFa
       rw [hqe] at hFb
       by_cases hd : treeE true p = treeE true q
       · simp only [hd, decide_true, if_true] at hat
         (try (conv => whnf)); (repeat ((first | refine qT ?_ | refine qF ?_ | refine qO ?_ | (with_reducible intro z hz); (first | (replace hz := hz (by omega); subst hz) | subst hz)); (try (conv => whnf))))
         refine Idx.mk k (uv x) _ rfl (by rw [List.getElem?_map, hx]; rfl) (by rw [hux]; try rfl) ?_
         (try (conv => whnf)); (repeat ((first | refine qT ?_ | refine qF ?_ | refine qO ?_ | (with_reducible intro z hz); (first | (replace hz := hz (by omega); subst hz) | subst hz) | (refine CallV.mk _ (hC _ _ _ (PCw.of hFa)) (fun js hjs => ?_); subst hjs)); (try (conv => whnf))))
         refine Idx.mk k (uv x) _ rfl (by rw [List.getElem?_map, hx]; rfl) (by rw [hux]; try rfl) ?_
         (try (conv => whnf)); (repeat ((first | refine qT ?_ | refine qF ?_ | refine qO ?_ | (with_reducible intro z hz); (first | (replace hz := hz (by omega); subst hz) | subst hz) | (refine CallV.mk _ (hC _ _ _ (PCw.of hFb)) (fun js hjs => ?_); subst hjs) | (refine CallV.mk _ (hC _ _ _ (PCw.of hWp)) (fun js hjs => ?_); subst hjs) | (refine CallV.mk _ (hC _ _ _ (PCw.of hWq)) (fun js hjs => ?_); subst hjs)); (try (conv => whnf))))
         refine ⟨k + 1, by omega, by dsimp only; omega, ?_⟩
         dsimp only []
         rw [hat]
         exact (qSL 0 rfl rfl)
       · simp only [hd, decide_false, Bool.false_eq_true, if_false] at hat
         (try (conv => whnf)); (repeat ((first | refine qT ?_ | refine qF ?_ | refine qO ?_ | (with_reducible intro z hz); (first | (replace hz := hz (by omega); subst hz) | subst hz)); (try (conv => whnf))))
         refine Idx.mk k (uv x) _ rfl (by rw [List.getElem?_map, hx]; rfl) (by rw [hux]; try rfl) ?_
         (try (conv => whnf)); (repeat ((first | refine qT ?_ | refine qF ?_ | refine qO ?_ | (with_reducible intro z hz); (first | (replace hz := hz (by omega); subst hz) | subst hz) | (refine CallV.mk _ (hC _ _ _ (PCw.of hFa)) (fun js hjs => ?_); subst hjs)); (try (conv => whnf))))
         refine Idx.mk k (uv x) _ rfl (by rw [List.getElem?_map, hx]; rfl) (by rw [hux]; try rfl) ?_
         (try (conv => whnf)); (repeat ((first | refine qT ?_ | refine qF ?_ | refine qO ?_ | (with_reducible intro z hz); (first | (replace hz := hz (by omega); subst hz) | subst hz) | (refine CallV.mk _ (hC _ _ _ (PCw.of hFb)) (fun js hjs => ?_); subst hjs) | (refine CallV.mk _ (hC _ _ _ (PCw.of hWp)) (fun js hjs => ?_); subst hjs) | (refine CallV.mk _ (hC _ _ _ (PCw.of hWq)) (fun js hjs => ?_); subst hjs)); (try (conv => whnf))))
         refine Idx.mk k (uv x) _ rfl (by rw [List.getElem?_map, hx]; rfl) (by rw [hux]; try rfl) ?_
         (try (conv => whnf)); (repeat ((first | refine qT ?_ | refine qF ?_ | refine qO ?_ | (with_reducible intro z hz); (first | (replace hz := hz (by omega); subst hz) | subst hz) | (refine CallV.mk _ (hC _ _ _ (PCw.of hPt)) (fun js hjs => ?_); subst hjs)); (try (conv => whnf))))
         refine ⟨k + 1, by omega, by dsimp only; omega, ?_⟩
         dsimp only []
         rw [hat]
         exact (qSL 0 rfl rfl)
 | inr hge =>
   obtain rfl : k = (a.all ++ b.all).length := by omega
   rw [List.take_length]
   (try (conv => whnf)); (repeat ((first | refine qT ?_ | refine qF ?_ | refine qO ?_ | (with_reducible intro z hz); (first | (replace hz := hz (by omega); subst hz) | subst hz)); (try (conv => whnf))))
   exact hfin _ (ILes.refl _)
end Go.Proofs.YtopohipcpomecaaDoor.Pd
