/-
  Plain values, step by step: the tables of this program; contracts of the elder kind. Depth, step by step. The way up from a unit, copies, Find, step by step.
-/
import Derived.Test.YtcacnelhppakoaaDoorBr
import Derived.Test.YtcacnelhppakoaaDoorLin
namespace Go.Proofs.YtcacnelhppakoaaDoor.Pu
open Go Go.Pv
set_option linter.unusedSimpArgs false

set_option maxRecDepth 10000
theorem tq_int : tdOf Tryd.prog 3 = some ⟨false, 1, [.int .i64 0], .int .i64⟩ := by kernel_rfl
theorem tq_string : tdOf Tryd.prog 9 = some ⟨false, 1, [.str ⟨#[]⟩], .str⟩ := by kernel_rfl
theorem tq_bool : tdOf Tryd.prog 4 = some ⟨false, 1, [.bool false], .bool⟩ := by kernel_rfl
theorem tq_uint8 : tdOf Tryd.prog 5 = some ⟨false, 1, [.int .u8 0], .int .u8⟩ := by kernel_rfl
theorem tq_apiId : tdOf Tryd.prog 23 = some ⟨true, 3, [.int .i64 0, .int .i64 0, .int .i64 0], .struct [(0, 1, false), (1, 1, false), (2, 1, false)]⟩ := by kernel_rfl
theorem tq_apiMark : tdOf Tryd.prog 47 = some ⟨true, 3, [.int .i64 0, .int .i64 0, .int .i64 0], .struct [(0, 1, false), (1, 1, false), (2, 1, false)]⟩ := by kernel_rfl
theorem tq_apiWord : tdOf Tryd.prog 49 = some ⟨true, 4, [.str ⟨#[]⟩, .int .i64 0, .int .i64 0, .int .i64 0], .struct [(0, 1, false), (1, 3, true)]⟩ := by kernel_rfl
theorem tq_apiUnit : tdOf Tryd.prog 27 = some ⟨true, 8, [.int .i64 0, .int .i64 0, .int .i64 0, .int .i64 0, .str ⟨#[]⟩, .nil, .nil, .nil], .struct [(0, 3, true), (3, 1, false), (4, 1, false), (5, 1, false), (6, 1, false), (7, 1, false)]⟩ := by kernel_rfl
theorem tq_s_apiUnit : tdOf Tryd.prog 25 = some ⟨false, 1, [.nil], .slice 27 8 120⟩ := by kernel_rfl
theorem tq_s_apiWord : tdOf Tryd.prog 24 = some ⟨false, 1, [.nil], .slice 49 4 40⟩ := by kernel_rfl
theorem tq_s_apiId : tdOf Tryd.prog 40 = some ⟨false, 1, [.nil], .slice 23 3 24⟩ := by kernel_rfl
theorem tq_s_uint8 : tdOf Tryd.prog 50 = some ⟨false, 1, [.nil], .slice 5 1 1⟩ := by kernel_rfl
theorem tq_apiStep : tdOf Tryd.prog 72 = some ⟨true, 2, [.int .i64 0, .str ⟨#[]⟩], .struct [(0, 1, false), (1, 1, false)]⟩ := by kernel_rfl
theorem tq_s_apiStep : tdOf Tryd.prog 52 = some ⟨false, 1, [.nil], .slice 72 2 24⟩ := by kernel_rfl
theorem tq_apiErrno : tdOf Tryd.prog 57 = some ⟨false, 1, [.int .i64 0], .int .i64⟩ := by kernel_rfl
def tdl : List (TypeId × TD) := [(3, ⟨false, 1, [.int .i64 0], .int .i64⟩), (9, ⟨false, 1, [.str ⟨#[]⟩], .str⟩), (4, ⟨false, 1, [.bool false], .bool⟩), (5, ⟨false, 1, [.int .u8 0], .int .u8⟩), (23, ⟨true, 3, [.int .i64 0, .int .i64 0, .int .i64 0], .struct [(0, 1, false), (1, 1, false), (2, 1, false)]⟩), (47, ⟨true, 3, [.int .i64 0, .int .i64 0, .int .i64 0], .struct [(0, 1, false), (1, 1, false), (2, 1, false)]⟩), (49, ⟨true, 4, [.str ⟨#[]⟩, .int .i64 0, .int .i64 0, .int .i64 0], .struct [(0, 1, false), (1, 3, true)]⟩), (27, ⟨true, 8, [.int .i64 0, .int .i64 0, .int .i64 0, .int .i64 0, .str ⟨#[]⟩, .nil, .nil, .nil], .struct [(0, 3, true), (3, 1, false), (4, 1, false), (5, 1, false), (6, 1, false), (7, 1, false)]⟩), (25, ⟨false, 1, [.nil], .slice 27 8 120⟩), (24, ⟨false, 1, [.nil], .slice 49 4 40⟩), (40, ⟨false, 1, [.nil], .slice 23 3 24⟩), (50, ⟨false, 1, [.nil], .slice 5 1 1⟩), (72, ⟨true, 2, [.int .i64 0, .str ⟨#[]⟩], .struct [(0, 1, false), (1, 1, false)]⟩), (52, ⟨false, 1, [.nil], .slice 72 2 24⟩), (57, ⟨false, 1, [.int .i64 0], .int .i64⟩)]
theorem tdl_ok : AllTd Tryd.prog tdl := ⟨tq_int, tq_string, tq_bool, tq_uint8, tq_apiId, tq_apiMark, tq_apiWord, tq_apiUnit, tq_s_apiUnit, tq_s_apiWord, tq_s_apiId, tq_s_uint8, tq_apiStep, tq_s_apiStep, tq_apiErrno, trivial⟩
def tbh (fr : Nat → List Nat) (hk : Nat → Bool) : Tb := ⟨Pv.look tdl, eqs, fun _ => none, fr, hk⟩
abbrev tbf (fr : Nat → List Nat) : Tb := tbh fr fun _ => false
def tb0 : Tb := tbf fun _ => []
theorem tb_ok {fr : Nat → List Nat} {hk : Nat → Bool} : ∀ t d, (tbh fr hk).td t = some d → tdOf Tryd.prog t = some d := Pv.look_ok tdl_ok
end Go.Proofs.YtcacnelhppakoaaDoor.Pu

namespace Go.Proofs.YtcacnelhppakoaaDoor.Pu
open Go Go.Pv
set_option linter.unusedSimpArgs false
open Lab Lcs Go.Proofs.YtcacnelhppakoaaDoor
set_option maxRecDepth 10000
theorem kid_at {u : Ut} {k : Nat} (h : k < u.kids.length) : ∃ x, u.kids[k]? = some x := ⟨u.kids[k], List.getElem?_eq_getElem h⟩
set_option maxHeartbeats 4000000 in
theorem depth_pc (X : Env) (hX : X = envU) (n : Nat) : ∀ (u : Ut), u.count ≤ n → u.depth ≤ 1000000000 → n ≤ 1000000000 → PC Tryd.prog X 33 [uv u] [.int .i64 u.depth] := by
  subst hX
  induction n with
  | zero => intro u h; have := count_pos u; omega
  | succ n ih =>
  intro u hn hd hM
  have hde : u.depth = Ut.depths u.kids := by cases u; exact depth_mk _ _ _ _ _ _
  rw [uv_eq]
  refine PC.of_vc (T := tb0) eqs_ok tb_ok rfl mixed Tryd.func33 rfl rfl ?_; intro Γ C WK LP fin h0 hW hC hB hR hLP hfin
  (repeat ((conv => whnf); first | (with_reducible refine Fork.mk (fun _ => ?_) (fun hc => ?_)); rotate_left; (exfalso; first | omega | (simp [eqC, cellsI, idv, idl] at hc; done) | (simp [eqC, cellsI, idv, idl] at hc; omega) | contradiction) | (with_reducible refine Fork.mk (fun hc => ?_) (fun _ => ?_)); (exfalso; first | omega | (simp [eqC, cellsI, idv, idl] at hc; done) | (simp [eqC, cellsI, idv, idl] at hc; omega) | contradiction) | (with_reducible refine Owe.mk ?_ ?_); (first | omega | (unfold most; omega) | decide +kernel | assumption | (simp [most]; done) | (simp [most]; omega)) | (with_reducible intro z hz); first | (replace hz := hz (by omega); subst hz) | subst hz)); try (conv => whnf)
  refine hLP _ _ _ Nat (fun k => ⟨[.any, .any, .any, .imm (.int .i64 (Ut.depths (u.kids.take k) : Nat)), .any, .any, .any, .imm (.sl 8 (u.kids.map uv)), .imm (.int .i64 u.kids.length), .imm (.int .i64 (k : Nat)), .any, .any, .any, .any, .any, .any, .any, .any, .any, .any], []⟩) (fun k => k ≤ u.kids.length) (fun k => u.kids.length - k) 0 (Nat.zero_le _) (Weak.slots 0 (by first | omega | (rw [h0]; exact Nat.le_of_ble_eq_true rfl)) rfl rfl (by first | rfl | (simp only [List.all_cons, List.all_nil, blkBelow, belowL_imm, belowL, belowB, Bool.and_true, Bool.true_and]; first | done | decide) | simp [blkBelow, belowB, belowL, belowL_imm]) (by repeat (first | exact Wk.nil | refine Wk.drop ?_ | refine Wk.eq (by with_reducible rfl) rfl ?_ | refine Wk.eq (congrArg (fun z => PV.imm (IV.int IntKind.i64 z)) (by first | omega | (simp [Ut.depths]; done) | (simp [Ut.depths]; omega))) rfl ?_ | refine Wk.eq (by simp [Ut.depths]) rfl ?_ | refine Wk.eq rfl rfl ?_))) ?_
  intro k hk
  by_cases hlt : k < u.kids.length
  · obtain ⟨x, hx⟩ := kid_at hlt
    have h1 := kid_lt' hx
    have h2 := depths_take hx
    have h3 := depth_kid hx
    have hI := ih x (by omega) (by omega) (by omega)
    have hux := uv_eq x
    rw [hux] at hI
    (repeat ((conv => whnf); first | (with_reducible refine Fork.mk (fun _ => ?_) (fun hc => ?_)); rotate_left; (exfalso; first | omega | (simp [eqC, cellsI, idv, idl] at hc; done) | (simp [eqC, cellsI, idv, idl] at hc; omega) | contradiction) | (with_reducible refine Fork.mk (fun hc => ?_) (fun _ => ?_)); (exfalso; first | omega | (simp [eqC, cellsI, idv, idl] at hc; done) | (simp [eqC, cellsI, idv, idl] at hc; omega) | contradiction) | (with_reducible refine Owe.mk ?_ ?_); (first | omega | (unfold most; omega) | decide +kernel | assumption | (simp [most]; done) | (simp [most]; omega)) | (with_reducible intro z hz); first | (replace hz := hz (by omega); subst hz) | subst hz)); try (conv => whnf)
    refine Idx.mk k (uv x) _ rfl (by simp [hx]) (by rw [hux]; try rfl) ?_
    (repeat ((conv => whnf); first | (with_reducible refine Fork.mk (fun _ => ?_) (fun hc => ?_)); rotate_left; (exfalso; first | omega | (simp [eqC, cellsI, idv, idl] at hc; done) | (simp [eqC, cellsI, idv, idl] at hc; omega) | contradiction) | (with_reducible refine Fork.mk (fun hc => ?_) (fun _ => ?_)); (exfalso; first | omega | (simp [eqC, cellsI, idv, idl] at hc; done) | (simp [eqC, cellsI, idv, idl] at hc; omega) | contradiction) | (with_reducible refine Owe.mk ?_ ?_); (first | omega | (unfold most; omega) | decide +kernel | assumption | (simp [most]; done) | (simp [most]; omega)) | (with_reducible intro z hz); first | (replace hz := hz (by omega); subst hz) | subst hz)); try (conv => whnf)
    refine CallV.mk _ (hC _ _ _ (PCw.of (hI))) (fun js hjs => ?_); subst hjs
    (repeat ((conv => whnf); first | (with_reducible refine Fork.mk (fun _ => ?_) (fun hc => ?_)); rotate_left; (exfalso; first | omega | (simp [eqC, cellsI, idv, idl] at hc; done) | (simp [eqC, cellsI, idv, idl] at hc; omega) | contradiction) | (with_reducible refine Fork.mk (fun hc => ?_) (fun _ => ?_)); (exfalso; first | omega | (simp [eqC, cellsI, idv, idl] at hc; done) | (simp [eqC, cellsI, idv, idl] at hc; omega) | contradiction) | (with_reducible refine Owe.mk ?_ ?_); (first | omega | (unfold most; omega) | decide +kernel | assumption | (simp [most]; done) | (simp [most]; omega)) | (with_reducible intro z hz); first | (replace hz := hz (by omega); subst hz) | subst hz)); try (conv => whnf)
    intro z hz
    (repeat ((conv => whnf); first | (with_reducible refine Fork.mk (fun _ => ?_) (fun hc => ?_)); rotate_left; (exfalso; first | omega | (simp [eqC, cellsI, idv, idl] at hc; done) | (simp [eqC, cellsI, idv, idl] at hc; omega) | contradiction) | (with_reducible refine Fork.mk (fun hc => ?_) (fun _ => ?_)); (exfalso; first | omega | (simp [eqC, cellsI, idv, idl] at hc; done) | (simp [eqC, cellsI, idv, idl] at hc; omega) | contradiction) | (with_reducible refine Owe.mk ?_ ?_); (first | omega | (unfold most; omega) | decide +kernel | assumption | (simp [most]; done) | (simp [most]; omega)) | (with_reducible intro z hz); first | (replace hz := hz (by omega); subst hz) | subst hz)); try (conv => whnf)
    exact ⟨k + 1, by omega, by dsimp only; omega, (Weak.slots 0 (by first | omega | (rw [h0]; exact Nat.le_of_ble_eq_true rfl)) rfl rfl (by first | rfl | (simp only [List.all_cons, List.all_nil, blkBelow, belowL_imm, belowL, belowB, Bool.and_true, Bool.true_and]; first | done | decide) | simp [blkBelow, belowB, belowL, belowL_imm]) (by repeat (first | exact Wk.nil | refine Wk.drop ?_ | refine Wk.eq (by with_reducible rfl) rfl ?_ | refine Wk.eq (congrArg (fun z => PV.imm (IV.int IntKind.i64 z)) (by first | omega | (simp; done) | (simp; omega))) rfl ?_ | refine Wk.eq rfl rfl ?_)))⟩
  · (repeat ((conv => whnf); first | (with_reducible refine Fork.mk (fun _ => ?_) (fun hc => ?_)); rotate_left; (exfalso; first | omega | (simp [eqC, cellsI, idv, idl] at hc; done) | (simp [eqC, cellsI, idv, idl] at hc; omega) | contradiction) | (with_reducible refine Fork.mk (fun hc => ?_) (fun _ => ?_)); (exfalso; first | omega | (simp [eqC, cellsI, idv, idl] at hc; done) | (simp [eqC, cellsI, idv, idl] at hc; omega) | contradiction) | (with_reducible refine Owe.mk ?_ ?_); (first | omega | (unfold most; omega) | decide +kernel | assumption | (simp [most]; done) | (simp [most]; omega)) | (with_reducible intro z hz); first | (replace hz := hz (by omega); subst hz) | subst hz)); try (conv => whnf)
    refine hfin _ ?_
    obtain rfl : k = u.kids.length := by omega
    rw [List.take_length, ← hde]
    exact ILes.refl _
end Go.Proofs.YtcacnelhppakoaaDoor.Pu

namespace Go.Proofs.YtcacnelhppakoaaDoor.Pu
open Go Go.Pv
set_option linter.unusedSimpArgs false
open Lab Lcs Go.Proofs.YtcacnelhppakoaaDoor
set_option maxRecDepth 10000
mutual
theorem lin_len (t : Trip) : ∀ u : Ut, (linL t u).length ≤ u.count
  | .mk i k l h w kids => by
    rw [linL, count_mk]
    split
    · simp
    · split
      · simp
      · have := linK_len t kids
        rw [List.length_append, List.length_singleton]
        omega
theorem linK_len (t : Trip) : ∀ l : List Ut, (linK t l).length ≤ Ut.counts l
  | [] => by simp [linK]
  | u :: r => by
    rw [linK]
    have h1 := lin_len t u
    have h2 := linK_len t r
    simp only [Ut.counts]
    split <;> omega
end
theorem trip_eq {a b : Trip} (h : a = b) : a.x = b.x ∧ a.y = b.y ∧ a.z = b.z := by subst h; exact ⟨rfl, rfl, rfl⟩
theorem trip_ne {a b : Trip} (h : a ≠ b) : ¬ (a.x = b.x ∧ a.y = b.y ∧ a.z = b.z) := fun hh => h (by cases a; cases b; simp_all)
set_option maxHeartbeats 4000000 in
theorem lineage_pcr (t : Trip) (n : Nat) : ∀ (u : Ut), u.count ≤ n → n ≤ 100000000 → PCR Tryd.prog envU 82 [uv u, idv t] 27 8 ((linL t u).map uv) := by
  induction n with
  | zero => intro u h; have := count_pos u; omega
  | succ n ih =>
  intro u hn hM
  have hue := uv_eq u
  rw [hue]
  unfold idv idl
  refine PCR.of_vc (T := tb0) eqs_ok tb_ok rfl mixed Tryd.func82 rfl rfl ?_; intro Γ C WK LP fin h0 hW hC hB hR hLP hfin
  by_cases hid : u.id = t
  · have hi := trip_eq hid
    (repeat ((conv => whnf); first | (with_reducible refine Fork.mk (fun _ => ?_) (fun hc => ?_)); rotate_left; (exfalso; first | omega | (simp [eqC, cellsI, idv, idl] at hc; done) | (simp [eqC, cellsI, idv, idl] at hc; omega) | contradiction) | (with_reducible refine Fork.mk (fun hc => ?_) (fun _ => ?_)); (exfalso; first | omega | (simp [eqC, cellsI, idv, idl] at hc; done) | (simp [eqC, cellsI, idv, idl] at hc; omega) | contradiction) | (with_reducible refine Owe.mk ?_ ?_); (first | omega | (unfold most; omega) | decide +kernel | assumption | (simp [most]; done) | (simp [most]; omega)) | (with_reducible intro z hz); first | (replace hz := hz (by omega); subst hz) | subst hz)); try (conv => whnf)
    refine hfin _ _ _ _ ((Weak.row 2 (((linL t u).map uv).map .imm) rfl (by rw [lin_self hid, List.map_cons, List.map_cons, hue]; rfl))) rfl
  · have hi := trip_ne hid
    (repeat ((conv => whnf); first | (with_reducible refine Fork.mk (fun _ => ?_) (fun hc => ?_)); rotate_left; (exfalso; first | omega | (simp [eqC, cellsI, idv, idl] at hc; done) | (simp [eqC, cellsI, idv, idl] at hc; omega) | contradiction) | (with_reducible refine Fork.mk (fun hc => ?_) (fun _ => ?_)); (exfalso; first | omega | (simp [eqC, cellsI, idv, idl] at hc; done) | (simp [eqC, cellsI, idv, idl] at hc; omega) | contradiction) | (with_reducible refine Owe.mk ?_ ?_); (first | omega | (unfold most; omega) | decide +kernel | assumption | (simp [most]; done) | (simp [most]; omega)) | (with_reducible intro z hz); first | (replace hz := hz (by omega); subst hz) | subst hz)); try (conv => whnf)
    refine hLP _ _ _ Nat (fun k => ⟨[.any, .any, .ptr 0 1 0, .ptr 1 1 0, .any, .any, .any, .any, .any, .any, .any, .any, .any, .any, .any, .imm (.sl 8 (u.kids.map uv)), .imm (.int .i64 u.kids.length), .imm (.int .i64 (k : Nat)), .any, .any, .any, .any, .any, .any, .any, .any, .any, .any, .any, .any, .any, .any], [.box 1 [.imm (.int .i64 u.id.x), .imm (.int .i64 u.id.y), .imm (.int .i64 u.id.z), .imm (.int .i64 u.kind), .imm (.str u.label), .imm (.sl 4 (u.head.map wdv)), .imm (.sl 4 (u.words.map wdv)), .imm (.sl 8 (u.kids.map uv))], .box 1 [.imm (.int .i64 t.x), .imm (.int .i64 t.y), .imm (.int .i64 t.z)]]⟩) (fun k => k ≤ u.kids.length ∧ linK t (u.kids.take k) = []) (fun k => u.kids.length - k) 0 ⟨Nat.zero_le _, rfl⟩ (Weak.slots 2 (by first | omega | (rw [h0]; exact Nat.le_of_ble_eq_true rfl)) rfl rfl (by first | rfl | (simp only [List.all_cons, List.all_nil, blkBelow, belowL_imm, belowL, belowB, Bool.and_true, Bool.true_and]; first | done | decide) | simp [blkBelow, belowB, belowL, belowL_imm]) (by repeat (first | exact Wk.nil | refine Wk.drop ?_ | refine Wk.eq (by with_reducible rfl) rfl ?_ | refine Wk.eq (congrArg (fun z => PV.imm (IV.int IntKind.i64 z)) (by first | omega | (simp; done) | (simp; omega))) rfl ?_ | refine Wk.eq rfl rfl ?_))) ?_
    rintro k ⟨hk, hno⟩
    by_cases hlt : k < u.kids.length
    · obtain ⟨x, hx⟩ := kid_at hlt
      have h1 := kid_lt' hx
      have hI := ih x (by omega) (by omega)
      have hux := uv_eq x
      rw [hux] at hI
      unfold idv idl at hI
      have hL : (((linL t x).map uv).map PV.imm).length = (linL t x).length := by simp
      have hl := lin_len t x
      (repeat ((conv => whnf); first | (with_reducible refine Fork.mk (fun _ => ?_) (fun hc => ?_)); rotate_left; (exfalso; first | omega | (simp [eqC, cellsI, idv, idl] at hc; done) | (simp [eqC, cellsI, idv, idl] at hc; omega) | contradiction) | (with_reducible refine Fork.mk (fun hc => ?_) (fun _ => ?_)); (exfalso; first | omega | (simp [eqC, cellsI, idv, idl] at hc; done) | (simp [eqC, cellsI, idv, idl] at hc; omega) | contradiction) | (with_reducible refine Owe.mk ?_ ?_); (first | omega | (unfold most; omega) | decide +kernel | assumption | (simp [most]; done) | (simp [most]; omega)) | (with_reducible intro z hz); first | (replace hz := hz (by omega); subst hz) | subst hz)); try (conv => whnf)
      refine Idx.mk k (uv x) _ rfl (by simp [hx]) (by rw [hux]; try rfl) ?_
      (repeat ((conv => whnf); first | (with_reducible refine Fork.mk (fun _ => ?_) (fun hc => ?_)); rotate_left; (exfalso; first | omega | (simp [eqC, cellsI, idv, idl] at hc; done) | (simp [eqC, cellsI, idv, idl] at hc; omega) | contradiction) | (with_reducible refine Fork.mk (fun hc => ?_) (fun _ => ?_)); (exfalso; first | omega | (simp [eqC, cellsI, idv, idl] at hc; done) | (simp [eqC, cellsI, idv, idl] at hc; omega) | contradiction) | (with_reducible refine Owe.mk ?_ ?_); (first | omega | (unfold most; omega) | decide +kernel | assumption | (simp [most]; done) | (simp [most]; omega)) | (with_reducible intro z hz); first | (replace hz := hz (by omega); subst hz) | subst hz)); try (conv => whnf)
      refine CallV.row _ _ _ (hR _ _ _ _ _ (PCRw.of (hI))) (fun js hjs => ?_); subst hjs
      by_cases hz : (linL t x).length = 0
      · (repeat ((conv => whnf); first | (with_reducible refine Fork.mk (fun _ => ?_) (fun hc => ?_)); rotate_left; (exfalso; first | omega | (simp [eqC, cellsI, idv, idl] at hc; done) | (simp [eqC, cellsI, idv, idl] at hc; omega) | contradiction) | (with_reducible refine Fork.mk (fun hc => ?_) (fun _ => ?_)); (exfalso; first | omega | (simp [eqC, cellsI, idv, idl] at hc; done) | (simp [eqC, cellsI, idv, idl] at hc; omega) | contradiction) | (with_reducible refine Owe.mk ?_ ?_); (first | omega | (unfold most; omega) | decide +kernel | assumption | (simp [most]; done) | (simp [most]; omega)) | (with_reducible intro z hz); first | (replace hz := hz (by omega); subst hz) | subst hz)); try (conv => whnf)
        exact ⟨k + 1, ⟨by omega, linK_step hx hno (List.eq_nil_of_length_eq_zero hz)⟩, by dsimp only; omega, (Weak.slots 2 (by first | omega | (rw [h0]; exact Nat.le_of_ble_eq_true rfl)) rfl rfl (by first | rfl | (simp only [List.all_cons, List.all_nil, blkBelow, belowL_imm, belowL, belowB, Bool.and_true, Bool.true_and]; first | done | decide) | simp [blkBelow, belowB, belowL, belowL_imm]) (by repeat (first | exact Wk.nil | refine Wk.drop ?_ | refine Wk.eq (by with_reducible rfl) rfl ?_ | refine Wk.eq (congrArg (fun z => PV.imm (IV.int IntKind.i64 z)) (by first | omega | (simp; done) | (simp; omega))) rfl ?_ | refine Wk.eq rfl rfl ?_)))⟩
      · (repeat ((conv => whnf); first | (with_reducible refine Fork.mk (fun _ => ?_) (fun hc => ?_)); rotate_left; (exfalso; first | omega | (simp [eqC, cellsI, idv, idl] at hc; done) | (simp [eqC, cellsI, idv, idl] at hc; omega) | contradiction) | (with_reducible refine Fork.mk (fun hc => ?_) (fun _ => ?_)); (exfalso; first | omega | (simp [eqC, cellsI, idv, idl] at hc; done) | (simp [eqC, cellsI, idv, idl] at hc; omega) | contradiction) | (with_reducible refine Owe.mk ?_ ?_); (first | omega | (unfold most; omega) | decide +kernel | assumption | (simp [most]; done) | (simp [most]; omega)) | (with_reducible intro z hz); first | (replace hz := hz (by omega); subst hz) | subst hz)); try (conv => whnf)
        have hne : linL t x ≠ [] := fun e => hz (by rw [e]; rfl)
        have hk := linK_hit hx hno hne
        refine hfin _ _ _ _ ((Weak.row 3 (((linL t u).map uv).map .imm) rfl (by rw [lin_some hid (by rw [hk]; exact hne), hk, List.map_append, List.map_append, List.map_cons, List.map_nil, hue]; rfl))) rfl
    · (repeat ((conv => whnf); first | (with_reducible refine Fork.mk (fun _ => ?_) (fun hc => ?_)); rotate_left; (exfalso; first | omega | (simp [eqC, cellsI, idv, idl] at hc; done) | (simp [eqC, cellsI, idv, idl] at hc; omega) | contradiction) | (with_reducible refine Fork.mk (fun hc => ?_) (fun _ => ?_)); (exfalso; first | omega | (simp [eqC, cellsI, idv, idl] at hc; done) | (simp [eqC, cellsI, idv, idl] at hc; omega) | contradiction) | (with_reducible refine Owe.mk ?_ ?_); (first | omega | (unfold most; omega) | decide +kernel | assumption | (simp [most]; done) | (simp [most]; omega)) | (with_reducible intro z hz); first | (replace hz := hz (by omega); subst hz) | subst hz)); try (conv => whnf)
      obtain rfl : k = u.kids.length := by omega
      rw [List.take_length] at hno
      refine hfin _ _ _ _ ((Weak.nilSlot 0 27 8 rfl)) ?_
      rw [lin_none hid hno]
      rfl
theorem lineage_pc (t : Trip) (u : Ut) (h : u.count ≤ 100000000) : PC Tryd.prog envU 82 [uv u, idv t] [.sl 8 ((linL t u).map uv)] := (lineage_pcr t u.count u (Nat.le_refl _) h).pc
set_option maxHeartbeats 4000000 in
theorem eachkid_pc (f : FuncId) (g : Ut → Ut) (u : Ut) (hu : u.count ≤ 100000000) (hf : ∀ x ∈ u.kids, PC Tryd.prog envU f [uv x] [uv (g x)]) : PC Tryd.prog envU 89 [uv u, .fn f] [.sl 8 ((u.kids.map g).map uv)] := by
  have hue := uv_eq u
  have hlen : u.kids.length < u.count := by have := kids_counts u.kids; have := Ut.count_eq u; omega
  rw [hue]
  refine PC.of_vc (T := tb0) eqs_ok tb_ok rfl mixed Tryd.func89 rfl rfl ?_; intro Γ C WK LP fin h0 hW hC hB hR hLP hfin
  (repeat ((conv => whnf); first | (with_reducible refine Fork.mk (fun _ => ?_) (fun hc => ?_)); rotate_left; (exfalso; first | omega | (simp [eqC, cellsI, idv, idl] at hc; done) | (simp [eqC, cellsI, idv, idl] at hc; omega) | contradiction) | (with_reducible refine Fork.mk (fun hc => ?_) (fun _ => ?_)); (exfalso; first | omega | (simp [eqC, cellsI, idv, idl] at hc; done) | (simp [eqC, cellsI, idv, idl] at hc; omega) | contradiction) | (with_reducible refine Owe.mk ?_ ?_); (first | omega | (unfold most; omega) | decide +kernel | assumption | (simp [most]; done) | (simp [most]; omega)) | (with_reducible intro z hz); first | (replace hz := hz (by omega); subst hz) | subst hz)); try (conv => whnf)
  refine hLP _ _ _ Nat (fun k => ⟨[.any, .imm (.fn f), .ptr 0 1 0, .any, .any, .row 1 1, .any, .any, .any, .imm (.sl 8 (u.kids.map uv)), .imm (.int .i64 u.kids.length), .imm (.int .i64 (k : Nat)), .any, .any, .any, .any, .any, .any, .any, .any, .any, .any, .any], [.box 1 [.imm (.int .i64 u.id.x), .imm (.int .i64 u.id.y), .imm (.int .i64 u.id.z), .imm (.int .i64 u.kind), .imm (.str u.label), .imm (.sl 4 (u.head.map wdv)), .imm (.sl 4 (u.words.map wdv)), .imm (.sl 8 (u.kids.map uv))], .row 27 8 1 ((((u.kids.take k).map g).map uv).map .imm)]⟩) (fun k => k ≤ u.kids.length) (fun k => u.kids.length - k) 0 (Nat.zero_le _) ((Weak.nilSlot 5 27 8 rfl).trans (Weak.slots 2 (by first | omega | (rw [h0]; exact Nat.le_of_ble_eq_true rfl)) rfl rfl (by first | rfl | (simp only [List.all_cons, List.all_nil, blkBelow, belowL_imm, belowL, belowB, Bool.and_true, Bool.true_and]; first | done | decide) | simp [blkBelow, belowB, belowL, belowL_imm]) (by repeat (first | exact Wk.nil | refine Wk.drop ?_ | refine Wk.eq (by with_reducible rfl) rfl ?_ | refine Wk.eq (congrArg (fun z => PV.imm (IV.int IntKind.i64 z)) (by first | omega | (simp; done) | (simp; omega))) rfl ?_ | refine Wk.eq rfl rfl ?_)))) ?_
  intro k hk
  by_cases hlt : k < u.kids.length
  · obtain ⟨x, hx⟩ := kid_at hlt
    have hux := uv_eq x
    have hug := uv_eq (g x)
    have hF := hf x (List.mem_of_getElem? hx)
    rw [hux, hug] at hF
    have hL : (((((u.kids.take k).map g).map uv).map PV.imm)).length = k := by simp; omega
    (repeat ((conv => whnf); first | (with_reducible refine Fork.mk (fun _ => ?_) (fun hc => ?_)); rotate_left; (exfalso; first | omega | (simp [eqC, cellsI, idv, idl] at hc; done) | (simp [eqC, cellsI, idv, idl] at hc; omega) | contradiction) | (with_reducible refine Fork.mk (fun hc => ?_) (fun _ => ?_)); (exfalso; first | omega | (simp [eqC, cellsI, idv, idl] at hc; done) | (simp [eqC, cellsI, idv, idl] at hc; omega) | contradiction) | (with_reducible refine Owe.mk ?_ ?_); (first | omega | (unfold most; omega) | decide +kernel | assumption | (simp [most]; done) | (simp [most]; omega)) | (with_reducible intro z hz); first | (replace hz := hz (by omega); subst hz) | subst hz)); try (conv => whnf)
    refine Idx.mk k (uv x) _ rfl (by simp [hx]) (by rw [hux]; try rfl) ?_
    (repeat ((conv => whnf); first | (with_reducible refine Fork.mk (fun _ => ?_) (fun hc => ?_)); rotate_left; (exfalso; first | omega | (simp [eqC, cellsI, idv, idl] at hc; done) | (simp [eqC, cellsI, idv, idl] at hc; omega) | contradiction) | (with_reducible refine Fork.mk (fun hc => ?_) (fun _ => ?_)); (exfalso; first | omega | (simp [eqC, cellsI, idv, idl] at hc; done) | (simp [eqC, cellsI, idv, idl] at hc; omega) | contradiction) | (with_reducible refine Owe.mk ?_ ?_); (first | omega | (unfold most; omega) | decide +kernel | assumption | (simp [most]; done) | (simp [most]; omega)) | (with_reducible intro z hz); first | (replace hz := hz (by omega); subst hz) | subst hz)); try (conv => whnf)
    refine CallV.mk _ (hC _ _ _ (PCw.of (hF))) (fun js hjs => ?_); subst hjs
    (repeat ((conv => whnf); first | (with_reducible refine Fork.mk (fun _ => ?_) (fun hc => ?_)); rotate_left; (exfalso; first | omega | (simp [eqC, cellsI, idv, idl] at hc; done) | (simp [eqC, cellsI, idv, idl] at hc; omega) | contradiction) | (with_reducible refine Fork.mk (fun hc => ?_) (fun _ => ?_)); (exfalso; first | omega | (simp [eqC, cellsI, idv, idl] at hc; done) | (simp [eqC, cellsI, idv, idl] at hc; omega) | contradiction) | (with_reducible refine Owe.mk ?_ ?_); (first | omega | (unfold most; omega) | decide +kernel | assumption | (simp [most]; done) | (simp [most]; omega)) | (with_reducible intro z hz); first | (replace hz := hz (by omega); subst hz) | subst hz)); try (conv => whnf)
    refine ⟨k + 1, by omega, by dsimp only; omega, ((Weak.row 1 ((((u.kids.take (k + 1)).map g).map uv).map .imm) rfl (by rw [take_one hx]; simp [hug]))).trans ((Weak.renew 1 1 rfl (by first | omega | (intro _; rw [hk0 _ _ rfl]; exact Nat.le_of_ble_eq_true rfl)) (by repeat (first | exact trivial | refine And.intro (rgL_imms _ _ _ _) ?_ | refine And.intro rfl ?_))).trans (Weak.slots 2 (by first | omega | (rw [h0]; exact Nat.le_of_ble_eq_true rfl)) rfl rfl (by first | rfl | (simp only [List.all_cons, List.all_nil, blkBelow, belowL_imm, belowL, belowB, Bool.and_true, Bool.true_and]; first | done | decide) | simp [blkBelow, belowB, belowL, belowL_imm]) (by repeat (first | exact Wk.nil | refine Wk.drop ?_ | refine Wk.eq (by with_reducible rfl) rfl ?_ | refine Wk.eq (congrArg (fun z => PV.imm (IV.int IntKind.i64 z)) (by first | omega | (simp; done) | (simp; omega))) rfl ?_ | refine Wk.eq rfl rfl ?_))))⟩
  · (repeat ((conv => whnf); first | (with_reducible refine Fork.mk (fun _ => ?_) (fun hc => ?_)); rotate_left; (exfalso; first | omega | (simp [eqC, cellsI, idv, idl] at hc; done) | (simp [eqC, cellsI, idv, idl] at hc; omega) | contradiction) | (with_reducible refine Fork.mk (fun hc => ?_) (fun _ => ?_)); (exfalso; first | omega | (simp [eqC, cellsI, idv, idl] at hc; done) | (simp [eqC, cellsI, idv, idl] at hc; omega) | contradiction) | (with_reducible refine Owe.mk ?_ ?_); (first | omega | (unfold most; omega) | decide +kernel | assumption | (simp [most]; done) | (simp [most]; omega)) | (with_reducible intro z hz); first | (replace hz := hz (by omega); subst hz) | subst hz)); try (conv => whnf)
    obtain rfl : k = u.kids.length := by omega
    refine Imms.mk _ rfl ?_
    refine hfin _ ?_
    rw [List.take_length]
    exact ILes.refl _
end Go.Proofs.YtcacnelhppakoaaDoor.Pu
