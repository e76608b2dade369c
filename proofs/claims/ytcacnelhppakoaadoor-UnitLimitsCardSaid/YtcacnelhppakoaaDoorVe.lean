/-
  Depth, step by step.
-/
import Derived.Test.YtcacnelhppakoaaDoorVt
namespace Go.Proofs.YtcacnelhppakoaaDoor.Pu
open Go Go.Pv
open Lab Lcs Go.Proofs.YtcacnelhppakoaaDoor
set_option maxRecDepth 10000
theorem kid_at {u : Ut} {k : Nat} (h : k < u.kids.length) : ∃ x, u.kids[k]? = some x := ⟨u.kids[k], List.getElem?_eq_getElem h⟩
set_option maxHeartbeats 4000000 in
theorem depth_pc (X : Env) (hX : X = envU) (n : Nat) : ∀ (u : Ut), u.count ≤ n → u.depth ≤ 1000000000 → n ≤ 1000000000 → PC Tryd.prog X 33 [uv u] [.int .i64 u.depth] := by
  subst hX
  induction n with
  | zero => intro u h; have := count_pos u; omega
  | succ n ih =>
  intro u hn hd hM
  have hde : u.depth = Ut.depths u.kids := by cases u; exact depth_mk _ _ _ _ _ _
  rw [uv_eq]
  refine PC.of_vc (T := tb0) eqs_ok tb_ok rfl mixed Tryd.func33 rfl rfl ?_
  intro Γ C LP fin h0 hC hB hLP hfin
  repeat ((conv => whnf); first | (with_reducible refine Fork.mk (fun _ => ?_) (fun hc => ?_)); rotate_left; (exfalso; first | omega | (simp at hc; done) | contradiction) | (with_reducible refine Fork.mk (fun hc => ?_) (fun _ => ?_)); (exfalso; first | omega | (simp at hc; done) | contradiction) | (with_reducible refine Owe.mk ?_ ?_); (first | omega | decide | assumption | (simp [most]; done) | (simp [most]; omega)) | (with_reducible intro z hz); first | (replace hz := hz (by omega); subst hz) | subst hz); try (conv => whnf)
  refine hLP _ _ _ Nat (fun k => ⟨[.any, .any, .any, .imm (.int .i64 (Ut.depths (u.kids.take k) : Nat)), .any, .any, .any, .imm (.sl 8 (u.kids.map uv)), .imm (.int .i64 u.kids.length), .imm (.int .i64 (k : Nat)), .any, .any, .any, .any, .any, .any, .any, .any, .any, .any], []⟩) (fun k => k ≤ u.kids.length) (fun k => u.kids.length - k) 0 (Nat.zero_le _) (Weak.slots 0 (by first | omega | simp) rfl rfl (by first | rfl | simp [blkBelow, belowB, belowL, belowL_imm]) (by repeat (first | exact Wk.nil | refine Wk.drop ?_ | refine Wk.eq (by with_reducible rfl) rfl ?_ | refine Wk.eq (congrArg (fun z => PV.imm (IV.int IntKind.i64 z)) (by first | omega | (simp [Ut.depths]; done) | (simp [Ut.depths]; omega))) rfl ?_ | refine Wk.eq (by simp [Ut.depths]) rfl ?_))) ?_
  intro k hk
  by_cases hlt : k < u.kids.length
  · obtain ⟨x, hx⟩ := kid_at hlt
    have h1 := kid_lt' hx
    have h2 := depths_take hx
    have h3 := depth_kid hx
    have hI := ih x (by omega) (by omega) (by omega)
    have hux := uv_eq x
    rw [hux] at hI
    repeat ((conv => whnf); first | (with_reducible refine Fork.mk (fun _ => ?_) (fun hc => ?_)); rotate_left; (exfalso; first | omega | (simp at hc; done) | contradiction) | (with_reducible refine Fork.mk (fun hc => ?_) (fun _ => ?_)); (exfalso; first | omega | (simp at hc; done) | contradiction) | (with_reducible refine Owe.mk ?_ ?_); (first | omega | decide | assumption | (simp [most]; done) | (simp [most]; omega)) | (with_reducible intro z hz); first | (replace hz := hz (by omega); subst hz) | subst hz); try (conv => whnf)
    refine Idx.mk k (uv x) _ rfl (by simp [hx]) (by rw [hux]; try rfl) ?_
    repeat ((conv => whnf); first | (with_reducible refine Fork.mk (fun _ => ?_) (fun hc => ?_)); rotate_left; (exfalso; first | omega | (simp at hc; done) | contradiction) | (with_reducible refine Fork.mk (fun hc => ?_) (fun _ => ?_)); (exfalso; first | omega | (simp at hc; done) | contradiction) | (with_reducible refine Owe.mk ?_ ?_); (first | omega | decide | assumption | (simp [most]; done) | (simp [most]; omega)) | (with_reducible intro z hz); first | (replace hz := hz (by omega); subst hz) | subst hz); try (conv => whnf)
    refine CallV.mk _ (hC _ _ _ (PCw.of (hI))) (fun js hjs => ?_); subst hjs
    repeat ((conv => whnf); first | (with_reducible refine Fork.mk (fun _ => ?_) (fun hc => ?_)); rotate_left; (exfalso; first | omega | (simp at hc; done) | contradiction) | (with_reducible refine Fork.mk (fun hc => ?_) (fun _ => ?_)); (exfalso; first | omega | (simp at hc; done) | contradiction) | (with_reducible refine Owe.mk ?_ ?_); (first | omega | decide | assumption | (simp [most]; done) | (simp [most]; omega)) | (with_reducible intro z hz); first | (replace hz := hz (by omega); subst hz) | subst hz); try (conv => whnf)
    intro z hz
    repeat ((conv => whnf); first | (with_reducible refine Fork.mk (fun _ => ?_) (fun hc => ?_)); rotate_left; (exfalso; first | omega | (simp at hc; done) | contradiction) | (with_reducible refine Fork.mk (fun hc => ?_) (fun _ => ?_)); (exfalso; first | omega | (simp at hc; done) | contradiction) | (with_reducible refine Owe.mk ?_ ?_); (first | omega | decide | assumption | (simp [most]; done) | (simp [most]; omega)) | (with_reducible intro z hz); first | (replace hz := hz (by omega); subst hz) | subst hz); try (conv => whnf)
    exact ⟨k + 1, by omega, by dsimp only; omega, (Weak.slots 0 (by first | omega | simp) rfl rfl (by first | rfl | simp [blkBelow, belowB, belowL, belowL_imm]) (by repeat (first | exact Wk.nil | refine Wk.drop ?_ | refine Wk.eq (by with_reducible rfl) rfl ?_ | refine Wk.eq (congrArg (fun z => PV.imm (IV.int IntKind.i64 z)) (by first | omega | (simp; done) | (simp; omega))) rfl ?_)))⟩
  · repeat ((conv => whnf); first | (with_reducible refine Fork.mk (fun _ => ?_) (fun hc => ?_)); rotate_left; (exfalso; first | omega | (simp at hc; done) | contradiction) | (with_reducible refine Fork.mk (fun hc => ?_) (fun _ => ?_)); (exfalso; first | omega | (simp at hc; done) | contradiction) | (with_reducible refine Owe.mk ?_ ?_); (first | omega | decide | assumption | (simp [most]; done) | (simp [most]; omega)) | (with_reducible intro z hz); first | (replace hz := hz (by omega); subst hz) | subst hz); try (conv => whnf)
    refine hfin _ ?_
    obtain rfl : k = u.kids.length := by omega
    rw [List.take_length, ← hde]
    exact ILes.refl _
end Go.Proofs.YtcacnelhppakoaaDoor.Pu
