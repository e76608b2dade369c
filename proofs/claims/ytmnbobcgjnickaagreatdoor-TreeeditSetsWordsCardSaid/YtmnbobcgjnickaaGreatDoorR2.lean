/-
  Plain values, step by step: the tables of this program; contracts of the elder kind. Depth, step by step. The way up from a unit, copies, Find, step by step. Counts, copies, Find, the lists of IDs, step by step. Parent, the way up, of the program and of the reference, step by step. Parent, Ancestors, of the program and of the reference, step by step. The reference's Parent and Above; Ancestors, step by step. The reference's Above and All, IDs, Alike, step by step.
-/
import Derived.Test.YtmnbobcgjnickaaGreatDoorRB
import Derived.Test.YtmnbobcgjnickaaGreatDoorLin
namespace Go.Proofs.YtmnbobcgjnickaaGreatDoor.Pu
open Go Go.Pv
set_option linter.unusedSimpArgs false
set_option maxRecDepth 10000
theorem tq_int : tdOf Tryz.prog 3 = some ⟨false, 1, [.int .i64 0], .int .i64⟩ := by kernel_rfl
theorem tq_string : tdOf Tryz.prog 9 = some ⟨false, 1, [.str ⟨#[]⟩], .str⟩ := by kernel_rfl
theorem tq_bool : tdOf Tryz.prog 4 = some ⟨false, 1, [.bool false], .bool⟩ := by kernel_rfl
theorem tq_uint8 : tdOf Tryz.prog 5 = some ⟨false, 1, [.int .u8 0], .int .u8⟩ := by kernel_rfl
theorem tq_apiId : tdOf Tryz.prog 23 = some ⟨true, 3, [.int .i64 0, .int .i64 0, .int .i64 0], .struct [(0, 1, false), (1, 1, false), (2, 1, false)]⟩ := by kernel_rfl
theorem tq_apiMark : tdOf Tryz.prog 46 = some ⟨true, 3, [.int .i64 0, .int .i64 0, .int .i64 0], .struct [(0, 1, false), (1, 1, false), (2, 1, false)]⟩ := by kernel_rfl
theorem tq_apiWord : tdOf Tryz.prog 48 = some ⟨true, 4, [.str ⟨#[]⟩, .int .i64 0, .int .i64 0, .int .i64 0], .struct [(0, 1, false), (1, 3, true)]⟩ := by kernel_rfl
theorem tq_apiUnit : tdOf Tryz.prog 27 = some ⟨true, 8, [.int .i64 0, .int .i64 0, .int .i64 0, .int .i64 0, .str ⟨#[]⟩, .nil, .nil, .nil], .struct [(0, 3, true), (3, 1, false), (4, 1, false), (5, 1, false), (6, 1, false), (7, 1, false)]⟩ := by kernel_rfl
theorem tq_s_apiUnit : tdOf Tryz.prog 25 = some ⟨false, 1, [.nil], .slice 27 8 120⟩ := by kernel_rfl
theorem tq_s_apiWord : tdOf Tryz.prog 24 = some ⟨false, 1, [.nil], .slice 48 4 40⟩ := by kernel_rfl
theorem tq_s_apiId : tdOf Tryz.prog 56 = some ⟨false, 1, [.nil], .slice 23 3 24⟩ := by kernel_rfl
theorem tq_apiStep : tdOf Tryz.prog 115 = some ⟨true, 2, [.int .i64 0, .str ⟨#[]⟩], .struct [(0, 1, false), (1, 1, false)]⟩ := by kernel_rfl
theorem tq_apiErrno : tdOf Tryz.prog 30 = some ⟨false, 1, [.int .i64 0], .int .i64⟩ := by kernel_rfl
def tdl : List (TypeId × TD) := [(3, ⟨false, 1, [.int .i64 0], .int .i64⟩), (9, ⟨false, 1, [.str ⟨#[]⟩], .str⟩), (4, ⟨false, 1, [.bool false], .bool⟩), (5, ⟨false, 1, [.int .u8 0], .int .u8⟩), (23, ⟨true, 3, [.int .i64 0, .int .i64 0, .int .i64 0], .struct [(0, 1, false), (1, 1, false), (2, 1, false)]⟩), (46, ⟨true, 3, [.int .i64 0, .int .i64 0, .int .i64 0], .struct [(0, 1, false), (1, 1, false), (2, 1, false)]⟩), (48, ⟨true, 4, [.str ⟨#[]⟩, .int .i64 0, .int .i64 0, .int .i64 0], .struct [(0, 1, false), (1, 3, true)]⟩), (27, ⟨true, 8, [.int .i64 0, .int .i64 0, .int .i64 0, .int .i64 0, .str ⟨#[]⟩, .nil, .nil, .nil], .struct [(0, 3, true), (3, 1, false), (4, 1, false), (5, 1, false), (6, 1, false), (7, 1, false)]⟩), (25, ⟨false, 1, [.nil], .slice 27 8 120⟩), (24, ⟨false, 1, [.nil], .slice 48 4 40⟩), (56, ⟨false, 1, [.nil], .slice 23 3 24⟩), (115, ⟨true, 2, [.int .i64 0, .str ⟨#[]⟩], .struct [(0, 1, false), (1, 1, false)]⟩), (30, ⟨false, 1, [.int .i64 0], .int .i64⟩)]
theorem tdl_ok : AllTd Tryz.prog tdl := ⟨tq_int, tq_string, tq_bool, tq_uint8, tq_apiId, tq_apiMark, tq_apiWord, tq_apiUnit, tq_s_apiUnit, tq_s_apiWord, tq_s_apiId, tq_apiStep, tq_apiErrno, trivial⟩
def tbh (fr : Nat → List Nat) (hk : Nat → Bool) : Tb := ⟨Pv.look tdl, eqs, fun _ => none, fr, hk, fun _ => 0⟩
abbrev tbf (fr : Nat → List Nat) : Tb := tbh fr fun _ => false
def tb0 : Tb := tbf fun _ => []
theorem tb_ok {fr : Nat → List Nat} {hk : Nat → Bool} : ∀ t d, (tbh fr hk).td t = some d → tdOf Tryz.prog t = some d := Pv.look_ok tdl_ok
end Go.Proofs.YtmnbobcgjnickaaGreatDoor.Pu
namespace Go.Proofs.YtmnbobcgjnickaaGreatDoor.Pu
open Go Go.Pv
set_option linter.unusedSimpArgs false
open Lab Lcs Go.Proofs.YtmnbobcgjnickaaGreatDoor
set_option maxRecDepth 10000
theorem kid_at {u : Ut} {k : Nat} (h : k < u.kids.length) : ∃ x, u.kids[k]? = some x := ⟨u.kids[k], List.getElem?_eq_getElem h⟩
set_option maxHeartbeats 4000000 in
theorem depth_pc (X : Env) (hX : X = envU) (n : Nat) : ∀ (u : Ut), u.count ≤ n → u.depth ≤ 1000000000 → n ≤ 1000000000 → PC Tryz.prog X 76 [uv u] [.int .i64 u.depth] := by
 subst hX
 induction n with
 | zero => intro u h; have := count_pos u; omega
 | succ n ih =>
 intro u hn hd hM
 have hde : u.depth = Ut.depths u.kids := by cases u; exact depth_mk _ _ _ _ _ _
 rw [uv_eq]
 refine PC.of_vc (T := tb0) eqs_ok tb_ok rfl mixed Tryz.func76 rfl rfl ?_; intro Γ C WK LP fin h0 hW hC hB hR hLP hfin
 (repeat ((conv => whnf); first | (with_reducible refine Fork.mk (fun hq => ?_) (fun hc => ?_)); rotate_left; (exfalso; first | omega | (simp [eqC, cellsI, idv, idl] at hc; done) | (simp [eqC, cellsI, idv, idl] at hc; omega) | contradiction); (try clear hq) | (with_reducible refine Fork.mk (fun hc => ?_) (fun hq => ?_)); (exfalso; first | omega | (simp [eqC, cellsI, idv, idl] at hc; done) | (simp [eqC, cellsI, idv, idl] at hc; omega) | contradiction); (try clear hq) | (with_reducible refine Owe.mk ?_ ?_); (first | omega | (unfold most; omega) | decide +kernel | assumption | (simp [most]; done) | (simp [most]; omega)) | (with_reducible intro z hz); first | (replace hz := hz (by omega); subst hz) | subst hz)); try (conv => whnf)
 refine hLP _ _ _ Nat (fun k => ⟨[.any, .any, .any, .imm (.int .i64 (Ut.depths (u.kids.take k) : Nat)), .any, .any, .any, .imm (.sl 8 (u.kids.map uv)), .imm (.int .i64 u.kids.length), .imm (.int .i64 (k : Nat)), .any, .any, .any, .any, .any, .any, .any, .any, .any, .any], []⟩) (fun k => k ≤ u.kids.length) (fun k => u.kids.length - k) 0 (Nat.zero_le _) (Weak.slots 0 (by first | omega | (rw [h0]; exact Nat.le_of_ble_eq_true rfl)) rfl rfl (by first | (simp only [List.all_cons, List.all_nil, blkBelow, belowL_imm, belowL, belowB, Bool.and_true, Bool.true_and]; done) | rfl | (simp only [List.all_cons, List.all_nil, blkBelow, belowL_imm, belowL, belowB, Bool.and_true, Bool.true_and]; first | done | decide) | simp [blkBelow, belowB, belowL, belowL_imm]) (by repeat (first | exact Wk.nil | refine Wk.drop16 ?_ | refine Wk.drop4 ?_ | refine Wk.drop ?_ | refine Wk.eq (by with_reducible rfl) rfl ?_ | refine Wk.eq (congrArg (fun z => PV.imm (IV.int IntKind.i64 z)) (by first | omega | (simp [Ut.depths]; done) | (simp [Ut.depths]; omega))) rfl ?_ | refine Wk.eq (by simp [Ut.depths]) rfl ?_ | refine Wk.eq rfl rfl ?_))) ?_
 intro k hk
 by_cases hlt : k < u.kids.length
 · obtain ⟨x, hx⟩ := kid_at hlt
   have h1 := kid_lt' hx
   have h2 := depths_take hx
   have h3 := depth_kid hx
   have hI := ih x (by omega) (by omega) (by omega)
   have hux := uv_eq x
   rw [hux] at hI
   (repeat ((conv => whnf); first | (with_reducible refine Fork.mk (fun hq => ?_) (fun hc => ?_)); rotate_left; (exfalso; first | omega | (simp [eqC, cellsI, idv, idl] at hc; done) | (simp [eqC, cellsI, idv, idl] at hc; omega) | contradiction); (try clear hq) | (with_reducible refine Fork.mk (fun hc => ?_) (fun hq => ?_)); (exfalso; first | omega | (simp [eqC, cellsI, idv, idl] at hc; done) | (simp [eqC, cellsI, idv, idl] at hc; omega) | contradiction); (try clear hq) | (with_reducible refine Owe.mk ?_ ?_); (first | omega | (unfold most; omega) | decide +kernel | assumption | (simp [most]; done) | (simp [most]; omega)) | (with_reducible intro z hz); first | (replace hz := hz (by omega); subst hz) | subst hz)); try (conv => whnf)
   refine Idx.mk k (uv x) _ rfl (by simp [hx]) (by rw [hux]; try rfl) ?_
   (repeat ((conv => whnf); first | (with_reducible refine Fork.mk (fun hq => ?_) (fun hc => ?_)); rotate_left; (exfalso; first | omega | (simp [eqC, cellsI, idv, idl] at hc; done) | (simp [eqC, cellsI, idv, idl] at hc; omega) | contradiction); (try clear hq) | (with_reducible refine Fork.mk (fun hc => ?_) (fun hq => ?_)); (exfalso; first | omega | (simp [eqC, cellsI, idv, idl] at hc; done) | (simp [eqC, cellsI, idv, idl] at hc; omega) | contradiction); (try clear hq) | (with_reducible refine Owe.mk ?_ ?_); (first | omega | (unfold most; omega) | decide +kernel | assumption | (simp [most]; done) | (simp [most]; omega)) | (with_reducible intro z hz); first | (replace hz := hz (by omega); subst hz) | subst hz)); try (conv => whnf)
   refine CallV.mk _ (hC _ _ _ (PCw.of (hI))) (fun js hjs => ?_); subst hjs
   (repeat ((conv => whnf); first | (with_reducible refine Fork.mk (fun hq => ?_) (fun hc => ?_)); rotate_left; (exfalso; first | omega | (simp [eqC, cellsI, idv, idl] at hc; done) | (simp [eqC, cellsI, idv, idl] at hc; omega) | contradiction); (try clear hq) | (with_reducible refine Fork.mk (fun hc => ?_) (fun hq => ?_)); (exfalso; first | omega | (simp [eqC, cellsI, idv, idl] at hc; done) | (simp [eqC, cellsI, idv, idl] at hc; omega) | contradiction); (try clear hq) | (with_reducible refine Owe.mk ?_ ?_); (first | omega | (unfold most; omega) | decide +kernel | assumption | (simp [most]; done) | (simp [most]; omega)) | (with_reducible intro z hz); first | (replace hz := hz (by omega); subst hz) | subst hz)); try (conv => whnf)
   intro z hz
   (repeat ((conv => whnf); first | (with_reducible refine Fork.mk (fun hq => ?_) (fun hc => ?_)); rotate_left; (exfalso; first | omega | (simp [eqC, cellsI, idv, idl] at hc; done) | (simp [eqC, cellsI, idv, idl] at hc; omega) | contradiction); (try clear hq) | (with_reducible refine Fork.mk (fun hc => ?_) (fun hq => ?_)); (exfalso; first | omega | (simp [eqC, cellsI, idv, idl] at hc; done) | (simp [eqC, cellsI, idv, idl] at hc; omega) | contradiction); (try clear hq) | (with_reducible refine Owe.mk ?_ ?_); (first | omega | (unfold most; omega) | decide +kernel | assumption | (simp [most]; done) | (simp [most]; omega)) | (with_reducible intro z hz); first | (replace hz := hz (by omega); subst hz) | subst hz)); try (conv => whnf)
   exact ⟨k + 1, by omega, by dsimp only; omega, (Weak.slots 0 (by first | omega | (rw [h0]; exact Nat.le_of_ble_eq_true rfl)) rfl rfl (by first | (simp only [List.all_cons, List.all_nil, blkBelow, belowL_imm, belowL, belowB, Bool.and_true, Bool.true_and]; done) | rfl | (simp only [List.all_cons, List.all_nil, blkBelow, belowL_imm, belowL, belowB, Bool.and_true, Bool.true_and]; first | done | decide) | simp [blkBelow, belowB, belowL, belowL_imm]) (by repeat (first | exact Wk.nil | refine Wk.drop16 ?_ | refine Wk.drop4 ?_ | refine Wk.drop ?_ | refine Wk.eq (by with_reducible rfl) rfl ?_ | refine Wk.eq (congrArg (fun z => PV.imm (IV.int IntKind.i64 z)) (by first | omega | (simp; done) | (simp; omega))) rfl ?_ | refine Wk.eq rfl rfl ?_)))⟩
 · (repeat ((conv => whnf); first | (with_reducible refine Fork.mk (fun hq => ?_) (fun hc => ?_)); rotate_left; (exfalso; first | omega | (simp [eqC, cellsI, idv, idl] at hc; done) | (simp [eqC, cellsI, idv, idl] at hc; omega) | contradiction); (try clear hq) | (with_reducible refine Fork.mk (fun hc => ?_) (fun hq => ?_)); (exfalso; first | omega | (simp [eqC, cellsI, idv, idl] at hc; done) | (simp [eqC, cellsI, idv, idl] at hc; omega) | contradiction); (try clear hq) | (with_reducible refine Owe.mk ?_ ?_); (first | omega | (unfold most; omega) | decide +kernel | assumption | (simp [most]; done) | (simp [most]; omega)) | (with_reducible intro z hz); first | (replace hz := hz (by omega); subst hz) | subst hz)); try (conv => whnf)
   refine hfin _ ?_
   obtain rfl : k = u.kids.length := by omega
   rw [List.take_length, ← hde]
   exact ILes.refl _
end Go.Proofs.YtmnbobcgjnickaaGreatDoor.Pu
namespace Go.Proofs.YtmnbobcgjnickaaGreatDoor.Pu
open Go Go.Pv
set_option linter.unusedSimpArgs false
open Lab Lcs Go.Proofs.YtmnbobcgjnickaaGreatDoor
set_option maxRecDepth 10000
mutual
theorem lin_len (t : Trip) : ∀ u : Ut, (linL t u).length ≤ u.count
 | .mk i k l h w kids => by
   rw [linL, count_mk]
   split
   · simp
   · split
     · simp
     · have := linK_len t kids
       rw [List.length_append, List.length_singleton]
       omega
theorem linK_len (t : Trip) : ∀ l : List Ut, (linK t l).length ≤ Ut.counts l
 | [] => by simp [linK]
 | u :: r => by
   rw [linK]
   have h1 := lin_len t u
   have h2 := linK_len t r
   simp only [Ut.counts]
   split <;> omega
end
theorem trip_eq {a b : Trip} (h : a = b) : a.x = b.x ∧ a.y = b.y ∧ a.z = b.z := by subst h; exact ⟨rfl, rfl, rfl⟩
theorem trip_ne {a b : Trip} (h : a ≠ b) : ¬ (a.x = b.x ∧ a.y = b.y ∧ a.z = b.z) := fun hh => h (by cases a; cases b; simp_all)
set_option maxHeartbeats 4000000 in
theorem lineage_pcr (t : Trip) (n : Nat) : ∀ (u : Ut), u.count ≤ n → n ≤ 100000000 → PCR Tryz.prog envU 94 [uv u, idv t] 27 8 ((linL t u).map uv) := by
 induction n with
 | zero => intro u h; have := count_pos u; omega
 | succ n ih =>
 intro u hn hM
 have hue := uv_eq u
 rw [hue]
 unfold idv idl
 refine PCR.of_vc (T := tb0) eqs_ok tb_ok rfl mixed Tryz.func94 rfl rfl ?_; intro Γ C WK LP fin h0 hW hC hB hR hLP hfin
 by_cases hid : u.id = t
 · have hi := trip_eq hid
   (repeat ((conv => whnf); first | (with_reducible refine Fork.mk (fun hq => ?_) (fun hc => ?_)); rotate_left; (exfalso; first | omega | (simp [eqC, cellsI, idv, idl] at hc; done) | (simp [eqC, cellsI, idv, idl] at hc; omega) | contradiction); (try clear hq) | (with_reducible refine Fork.mk (fun hc => ?_) (fun hq => ?_)); (exfalso; first | omega | (simp [eqC, cellsI, idv, idl] at hc; done) | (simp [eqC, cellsI, idv, idl] at hc; omega) | contradiction); (try clear hq) | (with_reducible refine Owe.mk ?_ ?_); (first | omega | (unfold most; omega) | decide +kernel | assumption | (simp [most]; done) | (simp [most]; omega)) | (with_reducible intro z hz); first | (replace hz := hz (by omega); subst hz) | subst hz)); try (conv => whnf)
   refine hfin _ _ _ _ ((Weak.row 2 (((linL t u).map uv).map .imm) rfl (by rw [lin_self hid, List.map_cons, List.map_cons, hue]; rfl))) rfl
 · have hi := trip_ne hid
   (repeat ((conv => whnf); first | (with_reducible refine Fork.mk (fun hq => ?_) (fun hc => ?_)); rotate_left; (exfalso; first | omega | (simp [eqC, cellsI, idv, idl] at hc; done) | (simp [eqC, cellsI, idv, idl] at hc; omega) | contradiction); (try clear hq) | (with_reducible refine Fork.mk (fun hc => ?_) (fun hq => ?_)); (exfalso; first | omega | (simp [eqC, cellsI, idv, idl] at hc; done) | (simp [eqC, cellsI, idv, idl] at hc; omega) | contradiction); (try clear hq) | (with_reducible refine Owe.mk ?_ ?_); (first | omega | (unfold most; omega) | decide +kernel | assumption | (simp [most]; done) | (simp [most]; omega)) | (with_reducible intro z hz); first | (replace hz := hz (by omega); subst hz) | subst hz)); try (conv => whnf)
   refine hLP _ _ _ Nat (fun k => ⟨[.any, .any, .ptr 0 1 0, .ptr 1 1 0, .any, .any, .any, .any, .any, .any, .any, .any, .any, .any, .any, .imm (.sl 8 (u.kids.map uv)), .imm (.int .i64 u.kids.length), .imm (.int .i64 (k : Nat)), .any, .any, .any, .any, .any, .any, .any, .any, .any, .any, .any, .any, .any, .any], [.box 1 [.imm (.int .i64 u.id.x), .imm (.int .i64 u.id.y), .imm (.int .i64 u.id.z), .imm (.int .i64 u.kind), .imm (.str u.label), .imm (.sl 4 (u.head.map wdv)), .imm (.sl 4 (u.words.map wdv)), .imm (.sl 8 (u.kids.map uv))], .box 1 [.imm (.int .i64 t.x), .imm (.int .i64 t.y), .imm (.int .i64 t.z)]]⟩) (fun k => k ≤ u.kids.length ∧ linK t (u.kids.take k) = []) (fun k => u.kids.length - k) 0 ⟨Nat.zero_le _, rfl⟩ (Weak.slots 2 (by first | omega | (rw [h0]; exact Nat.le_of_ble_eq_true rfl)) rfl rfl (by first | (simp only [List.all_cons, List.all_nil, blkBelow, belowL_imm, belowL, belowB, Bool.and_true, Bool.true_and]; done) | rfl | (simp only [List.all_cons, List.all_nil, blkBelow, belowL_imm, belowL, belowB, Bool.and_true, Bool.true_and]; first | done | decide) | simp [blkBelow, belowB, belowL, belowL_imm]) (by repeat (first | exact Wk.nil | refine Wk.drop16 ?_ | refine Wk.drop4 ?_ | refine Wk.drop ?_ | refine Wk.eq (by with_reducible rfl) rfl ?_ | refine Wk.eq (congrArg (fun z => PV.imm (IV.int IntKind.i64 z)) (by first | omega | (simp; done) | (simp; omega))) rfl ?_ | refine Wk.eq rfl rfl ?_))) ?_
   rintro k ⟨hk, hno⟩
   by_cases hlt : k < u.kids.length
   · obtain ⟨x, hx⟩ := kid_at hlt
     have h1 := kid_lt' hx
     have hI := ih x (by omega) (by omega)
     have hux := uv_eq x
     rw [hux] at hI
     unfold idv idl at hI
     have hL : (((linL t x).map uv).map PV.imm).length = (linL t x).length := by simp
     have hl := lin_len t x
     (repeat ((conv => whnf); first | (with_reducible refine Fork.mk (fun hq => ?_) (fun hc => ?_)); rotate_left; (exfalso; first | omega | (simp [eqC, cellsI, idv, idl] at hc; done) | (simp [eqC, cellsI, idv, idl] at hc; omega) | contradiction); (try clear hq) | (with_reducible refine Fork.mk (fun hc => ?_) (fun hq => ?_)); (exfalso; first | omega | (simp [eqC, cellsI, idv, idl] at hc; done) | (simp [eqC, cellsI, idv, idl] at hc; omega) | contradiction); (try clear hq) | (with_reducible refine Owe.mk ?_ ?_); (first | omega | (unfold most; omega) | decide +kernel | assumption | (simp [most]; done) | (simp [most]; omega)) | (with_reducible intro z hz); first | (replace hz := hz (by omega); subst hz) | subst hz)); try (conv => whnf)
     refine Idx.mk k (uv x) _ rfl (by simp [hx]) (by rw [hux]; try rfl) ?_
     (repeat ((conv => whnf); first | (with_reducible refine Fork.mk (fun hq => ?_) (fun hc => ?_)); rotate_left; (exfalso; first | omega | (simp [eqC, cellsI, idv, idl] at hc; done) | (simp [eqC, cellsI, idv, idl] at hc; omega) | contradiction); (try clear hq) | (with_reducible refine Fork.mk (fun hc => ?_) (fun hq => ?_)); (exfalso; first | omega | (simp [eqC, cellsI, idv, idl] at hc; done) | (simp [eqC, cellsI, idv, idl] at hc; omega) | contradiction); (try clear hq) | (with_reducible refine Owe.mk ?_ ?_); (first | omega | (unfold most; omega) | decide +kernel | assumption | (simp [most]; done) | (simp [most]; omega)) | (with_reducible intro z hz); first | (replace hz := hz (by omega); subst hz) | subst hz)); try (conv => whnf)
     refine CallV.row _ _ _ (hR _ _ _ _ _ (PCRw.of (hI))) (fun js hjs => ?_); subst hjs
     by_cases hz : (linL t x).length = 0
     · (repeat ((conv => whnf); first | (with_reducible refine Fork.mk (fun hq => ?_) (fun hc => ?_)); rotate_left; (exfalso; first | omega | (simp [eqC, cellsI, idv, idl] at hc; done) | (simp [eqC, cellsI, idv, idl] at hc; omega) | contradiction); (try clear hq) | (with_reducible refine Fork.mk (fun hc => ?_) (fun hq => ?_)); (exfalso; first | omega | (simp [eqC, cellsI, idv, idl] at hc; done) | (simp [eqC, cellsI, idv, idl] at hc; omega) | contradiction); (try clear hq) | (with_reducible refine Owe.mk ?_ ?_); (first | omega | (unfold most; omega) | decide +kernel | assumption | (simp [most]; done) | (simp [most]; omega)) | (with_reducible intro z hz); first | (replace hz := hz (by omega); subst hz) | subst hz)); try (conv => whnf)
       exact ⟨k + 1, ⟨by omega, linK_step hx hno (List.eq_nil_of_length_eq_zero hz)⟩, by dsimp only; omega, (Weak.slots 2 (by first | omega | (rw [h0]; exact Nat.le_of_ble_eq_true rfl)) rfl rfl (by first | (simp only [List.all_cons, List.all_nil, blkBelow, belowL_imm, belowL, belowB, Bool.and_true, Bool.true_and]; done) | rfl | (simp only [List.all_cons, List.all_nil, blkBelow, belowL_imm, belowL, belowB, Bool.and_true, Bool.true_and]; first | done | decide) | simp [blkBelow, belowB, belowL, belowL_imm]) (by repeat (first | exact Wk.nil | refine Wk.drop16 ?_ | refine Wk.drop4 ?_ | refine Wk.drop ?_ | refine Wk.eq (by with_reducible rfl) rfl ?_ | refine Wk.eq (congrArg (fun z => PV.imm (IV.int IntKind.i64 z)) (by first | omega | (simp; done) | (simp; omega))) rfl ?_ | refine Wk.eq rfl rfl ?_)))⟩
     · (repeat ((conv => whnf); first | (with_reducible refine Fork.mk (fun hq => ?_) (fun hc => ?_)); rotate_left; (exfalso; first | omega | (simp [eqC, cellsI, idv, idl] at hc; done) | (simp [eqC, cellsI, idv, idl] at hc; omega) | contradiction); (try clear hq) | (with_reducible refine Fork.mk (fun hc => ?_) (fun hq => ?_)); (exfalso; first | omega | (simp [eqC, cellsI, idv, idl] at hc; done) | (simp [eqC, cellsI, idv, idl] at hc; omega) | contradiction); (try clear hq) | (with_reducible refine Owe.mk ?_ ?_); (first | omega | (unfold most; omega) | decide +kernel | assumption | (simp [most]; done) | (simp [most]; omega)) | (with_reducible intro z hz); first | (replace hz := hz (by omega); subst hz) | subst hz)); try (conv => whnf)
       have hne : linL t x ≠ [] := fun e => hz (by rw [e]; rfl)
       have hk := linK_hit hx hno hne
       refine hfin _ _ _ _ ((Weak.row 3 (((linL t u).map uv).map .imm) rfl (by rw [lin_some hid (by rw [hk]; exact hne), hk, List.map_append, List.map_append, List.map_cons, List.map_nil, hue]; rfl))) rfl
   · (repeat ((conv => whnf); first | (with_reducible refine Fork.mk (fun hq => ?_) (fun hc => ?_)); rotate_left; (exfalso; first | omega | (simp [eqC, cellsI, idv, idl] at hc; done) | (simp [eqC, cellsI, idv, idl] at hc; omega) | contradiction); (try clear hq) | (with_reducible refine Fork.mk (fun hc => ?_) (fun hq => ?_)); (exfalso; first | omega | (simp [eqC, cellsI, idv, idl] at hc; done) | (simp [eqC, cellsI, idv, idl] at hc; omega) | contradiction); (try clear hq) | (with_reducible refine Owe.mk ?_ ?_); (first | omega | (unfold most; omega) | decide +kernel | assumption | (simp [most]; done) | (simp [most]; omega)) | (with_reducible intro z hz); first | (replace hz := hz (by omega); subst hz) | subst hz)); try (conv => whnf)
     obtain rfl : k = u.kids.length := by omega
     rw [List.take_length] at hno
     refine hfin _ _ _ _ ((Weak.nilSlot 0 27 8 rfl)) ?_
     rw [lin_none hid hno]
     rfl
theorem lineage_pc (t : Trip) (u : Ut) (h : u.count ≤ 100000000) : PC Tryz.prog envU 94 [uv u, idv t] [.sl 8 ((linL t u).map uv)] := (lineage_pcr t u.count u (Nat.le_refl _) h).pc
set_option maxHeartbeats 4000000 in
theorem eachkid_pc (f : FuncId) (g : Ut → Ut) (u : Ut) (hu : u.count ≤ 100000000) (hf : ∀ x ∈ u.kids, PC Tryz.prog envU f [uv x] [uv (g x)]) : PC Tryz.prog envU 110 [uv u, .fn f] [.sl 8 ((u.kids.map g).map uv)] := by
 have hue := uv_eq u
 have hlen : u.kids.length < u.count := by have := kids_counts u.kids; have := Ut.count_eq u; omega
 rw [hue]
 refine PC.of_vc (T := tb0) eqs_ok tb_ok rfl mixed Tryz.func110 rfl rfl ?_; intro Γ C WK LP fin h0 hW hC hB hR hLP hfin
 (repeat ((conv => whnf); first | (with_reducible refine Fork.mk (fun hq => ?_) (fun hc => ?_)); rotate_left; (exfalso; first | omega | (simp [eqC, cellsI, idv, idl] at hc; done) | (simp [eqC, cellsI, idv, idl] at hc; omega) | contradiction); (try clear hq) | (with_reducible refine Fork.mk (fun hc => ?_) (fun hq => ?_)); (exfalso; first | omega | (simp [eqC, cellsI, idv, idl] at hc; done) | (simp [eqC, cellsI, idv, idl] at hc; omega) | contradiction); (try clear hq) | (with_reducible refine Owe.mk ?_ ?_); (first | omega | (unfold most; omega) | decide +kernel | assumption | (simp [most]; done) | (simp [most]; omega)) | (with_reducible intro z hz); first | (replace hz := hz (by omega); subst hz) | subst hz)); try (conv => whnf)
 refine hLP _ _ _ Nat (fun k => ⟨[.any, .imm (.fn f), .ptr 0 1 0, .any, .any, .row 1 1, .any, .any, .any, .imm (.sl 8 (u.kids.map uv)), .imm (.int .i64 u.kids.length), .imm (.int .i64 (k : Nat)), .any, .any, .any, .any, .any, .any, .any, .any, .any, .any, .any], [.box 1 [.imm (.int .i64 u.id.x), .imm (.int .i64 u.id.y), .imm (.int .i64 u.id.z), .imm (.int .i64 u.kind), .imm (.str u.label), .imm (.sl 4 (u.head.map wdv)), .imm (.sl 4 (u.words.map wdv)), .imm (.sl 8 (u.kids.map uv))], .row 27 8 1 ((((u.kids.take k).map g).map uv).map .imm)]⟩) (fun k => k ≤ u.kids.length) (fun k => u.kids.length - k) 0 (Nat.zero_le _) ((Weak.nilSlot 5 27 8 rfl).trans (Weak.slots 2 (by first | omega | (rw [h0]; exact Nat.le_of_ble_eq_true rfl)) rfl rfl (by first | (simp only [List.all_cons, List.all_nil, blkBelow, belowL_imm, belowL, belowB, Bool.and_true, Bool.true_and]; done) | rfl | (simp only [List.all_cons, List.all_nil, blkBelow, belowL_imm, belowL, belowB, Bool.and_true, Bool.true_and]; first | done | decide) | simp [blkBelow, belowB, belowL, belowL_imm]) (by repeat (first | exact Wk.nil | refine Wk.drop16 ?_ | refine Wk.drop4 ?_ | refine Wk.drop ?_ | refine Wk.eq (by with_reducible rfl) rfl ?_ | refine Wk.eq (congrArg (fun z => PV.imm (IV.int IntKind.i64 z)) (by first | omega | (simp; done) | (simp; omega))) rfl ?_ | refine Wk.eq rfl rfl ?_)))) ?_
 intro k hk
 by_cases hlt : k < u.kids.length
 · obtain ⟨x, hx⟩ := kid_at hlt
   have hux := uv_eq x
   have hug := uv_eq (g x)
   have hF := hf x (List.mem_of_getElem? hx)
   rw [hux, hug] at hF
   have hL : (((((u.kids.take k).map g).map uv).map PV.imm)).length = k := by simp; omega
   (repeat ((conv => whnf); first | (with_reducible refine Fork.mk (fun hq => ?_) (fun hc => ?_)); rotate_left; (exfalso; first | omega | (simp [eqC, cellsI, idv, idl] at hc; done) | (simp [eqC, cellsI, idv, idl] at hc; omega) | contradiction); (try clear hq) | (with_reducible refine Fork.mk (fun hc => ?_) (fun hq => ?_)); (exfalso; first | omega | (simp [eqC, cellsI, idv, idl] at hc; done) | (simp [eqC, cellsI, idv, idl] at hc; omega) | contradiction); (try clear hq) | (with_reducible refine Owe.mk ?_ ?_); (first | omega | (unfold most; omega) | decide +kernel | assumption | (simp [most]; done) | (simp [most]; omega)) | (with_reducible intro z hz); first | (replace hz := hz (by omega); subst hz) | subst hz)); try (conv => whnf)
   refine Idx.mk k (uv x) _ rfl (by simp [hx]) (by rw [hux]; try rfl) ?_
   (repeat ((conv => whnf); first | (with_reducible refine Fork.mk (fun hq => ?_) (fun hc => ?_)); rotate_left; (exfalso; first | omega | (simp [eqC, cellsI, idv, idl] at hc; done) | (simp [eqC, cellsI, idv, idl] at hc; omega) | contradiction); (try clear hq) | (with_reducible refine Fork.mk (fun hc => ?_) (fun hq => ?_)); (exfalso; first | omega | (simp [eqC, cellsI, idv, idl] at hc; done) | (simp [eqC, cellsI, idv, idl] at hc; omega) | contradiction); (try clear hq) | (with_reducible refine Owe.mk ?_ ?_); (first | omega | (unfold most; omega) | decide +kernel | assumption | (simp [most]; done) | (simp [most]; omega)) | (with_reducible intro z hz); first | (replace hz := hz (by omega); subst hz) | subst hz)); try (conv => whnf)
   refine CallV.mk _ (hC _ _ _ (PCw.of (hF))) (fun js hjs => ?_); subst hjs
   (repeat ((conv => whnf); first | (with_reducible refine Fork.mk (fun hq => ?_) (fun hc => ?_)); rotate_left; (exfalso; first | omega | (simp [eqC, cellsI, idv, idl] at hc; done) | (simp [eqC, cellsI, idv, idl] at hc; omega) | contradiction); (try clear hq) | (with_reducible refine Fork.mk (fun hc => ?_) (fun hq => ?_)); (exfalso; first | omega | (simp [eqC, cellsI, idv, idl] at hc; done) | (simp [eqC, cellsI, idv, idl] at hc; omega) | contradiction); (try clear hq) | (with_reducible refine Owe.mk ?_ ?_); (first | omega | (unfold most; omega) | decide +kernel | assumption | (simp [most]; done) | (simp [most]; omega)) | (with_reducible intro z hz); first | (replace hz := hz (by omega); subst hz) | subst hz)); try (conv => whnf)
   refine ⟨k + 1, by omega, by dsimp only; omega, ((Weak.row 1 ((((u.kids.take (k + 1)).map g).map uv).map .imm) rfl (by rw [take_one hx]; simp [hug]))).trans ((Weak.renew 1 1 rfl (by first | omega | (intro _; rw [hk0 _ _ rfl]; exact Nat.le_of_ble_eq_true rfl)) (by repeat (first | exact trivial | refine And.intro (rgL_imms _ _ _ _) ?_ | refine And.intro rfl ?_))).trans (Weak.slots 2 (by first | omega | (rw [h0]; exact Nat.le_of_ble_eq_true rfl)) rfl rfl (by first | (simp only [List.all_cons, List.all_nil, blkBelow, belowL_imm, belowL, belowB, Bool.and_true, Bool.true_and]; done) | rfl | (simp only [List.all_cons, List.all_nil, blkBelow, belowL_imm, belowL, belowB, Bool.and_true, Bool.true_and]; first | done | decide) | simp [blkBelow, belowB, belowL, belowL_imm]) (by repeat (first | exact Wk.nil | refine Wk.drop16 ?_ | refine Wk.drop4 ?_ | refine Wk.drop ?_ | refine Wk.eq (by with_reducible rfl) rfl ?_ | refine Wk.eq (congrArg (fun z => PV.imm (IV.int IntKind.i64 z)) (by first | omega | (simp; done) | (simp; omega))) rfl ?_ | refine Wk.eq rfl rfl ?_))))⟩
 · (repeat ((conv => whnf); first | (with_reducible refine Fork.mk (fun hq => ?_) (fun hc => ?_)); rotate_left; (exfalso; first | omega | (simp [eqC, cellsI, idv, idl] at hc; done) | (simp [eqC, cellsI, idv, idl] at hc; omega) | contradiction); (try clear hq) | (with_reducible refine Fork.mk (fun hc => ?_) (fun hq => ?_)); (exfalso; first | omega | (simp [eqC, cellsI, idv, idl] at hc; done) | (simp [eqC, cellsI, idv, idl] at hc; omega) | contradiction); (try clear hq) | (with_reducible refine Owe.mk ?_ ?_); (first | omega | (unfold most; omega) | decide +kernel | assumption | (simp [most]; done) | (simp [most]; omega)) | (with_reducible intro z hz); first | (replace hz := hz (by omega); subst hz) | subst hz)); try (conv => whnf)
   obtain rfl : k = u.kids.length := by omega
   refine Imms.mk _ rfl ?_
   refine hfin _ ?_
   rw [List.take_length]
   exact ILes.refl _
end Go.Proofs.YtmnbobcgjnickaaGreatDoor.Pu
namespace Go.Proofs.YtmnbobcgjnickaaGreatDoor.Pu
open Go Go.Pv
set_option linter.unusedSimpArgs false
open Lab Lcs Go.Proofs.YtmnbobcgjnickaaGreatDoor
set_option maxRecDepth 10000
set_option maxHeartbeats 4000000
theorem count_pc (n : Nat) : ∀ (u : Ut), u.count ≤ n → n ≤ 100000000 → PC Tryz.prog envU 74 [uv u] [.int .i64 u.count] := by
 induction n with
 | zero => intro u h; have := count_pos u; omega
 | succ n ih =>
 intro u hn hM
 have hcu := Ut.count_eq u
 rw [uv_eq]
 refine PC.of_vc (T := tb0) eqs_ok tb_ok rfl mixed Tryz.func74 rfl rfl ?_; intro Γ C WK LP fin h0 hW hC hB hR hLP hfin
 (repeat ((conv => whnf); first | (with_reducible refine Fork.mk (fun hq => ?_) (fun hc => ?_)); rotate_left; (exfalso; first | omega | (simp [eqC, cellsI, idv, idl] at hc; done) | (simp [eqC, cellsI, idv, idl] at hc; omega) | contradiction); (try clear hq) | (with_reducible refine Fork.mk (fun hc => ?_) (fun hq => ?_)); (exfalso; first | omega | (simp [eqC, cellsI, idv, idl] at hc; done) | (simp [eqC, cellsI, idv, idl] at hc; omega) | contradiction); (try clear hq) | (with_reducible refine Owe.mk ?_ ?_); (first | omega | (unfold most; omega) | decide +kernel | assumption | (simp [most]; done) | (simp [most]; omega)) | (with_reducible intro z hz); first | (replace hz := hz (by omega); subst hz) | subst hz)); try (conv => whnf)
 refine hLP _ _ _ Nat (fun k => ⟨[.any, .any, .any, .imm (.int .i64 (1 + Ut.counts (u.kids.take k) : Nat)), .any, .any, .any, .imm (.sl 8 (u.kids.map uv)), .imm (.int .i64 u.kids.length), .imm (.int .i64 (k : Nat)), .any, .any, .any, .any, .any, .any, .any, .any, .any], []⟩) (fun k => k ≤ u.kids.length) (fun k => u.kids.length - k) 0 (Nat.zero_le _) (Weak.slots 0 (by first | omega | (rw [h0]; exact Nat.le_of_ble_eq_true rfl)) rfl rfl (by first | (simp only [List.all_cons, List.all_nil, blkBelow, belowL_imm, belowL, belowB, Bool.and_true, Bool.true_and]; done) | rfl | (simp only [List.all_cons, List.all_nil, blkBelow, belowL_imm, belowL, belowB, Bool.and_true, Bool.true_and]; first | done | decide) | simp [blkBelow, belowB, belowL, belowL_imm]) (by repeat (first | exact Wk.nil | refine Wk.drop16 ?_ | refine Wk.drop4 ?_ | refine Wk.drop ?_ | refine Wk.eq (by with_reducible rfl) rfl ?_ | refine Wk.eq (congrArg (fun z => PV.imm (IV.int IntKind.i64 z)) (by first | omega | (simp [Ut.counts]; done) | (simp [Ut.counts]; omega))) rfl ?_ | refine Wk.eq (by simp [Ut.counts]) rfl ?_ | refine Wk.eq rfl rfl ?_))) ?_
 intro k hk
 by_cases hlt : k < u.kids.length
 · obtain ⟨x, hx⟩ := kid_at hlt
   have h1 := kid_lt' hx
   have hI := ih x (by omega) (by omega)
   have hux := uv_eq x
   rw [hux] at hI
   (repeat ((conv => whnf); first | (with_reducible refine Fork.mk (fun hq => ?_) (fun hc => ?_)); rotate_left; (exfalso; first | omega | (simp [eqC, cellsI, idv, idl] at hc; done) | (simp [eqC, cellsI, idv, idl] at hc; omega) | contradiction); (try clear hq) | (with_reducible refine Fork.mk (fun hc => ?_) (fun hq => ?_)); (exfalso; first | omega | (simp [eqC, cellsI, idv, idl] at hc; done) | (simp [eqC, cellsI, idv, idl] at hc; omega) | contradiction); (try clear hq) | (with_reducible refine Owe.mk ?_ ?_); (first | omega | (unfold most; omega) | decide +kernel | assumption | (simp [most]; done) | (simp [most]; omega)) | (with_reducible intro z hz); first | (replace hz := hz (by omega); subst hz) | subst hz)); try (conv => whnf)
   refine Idx.mk k (uv x) _ rfl (by simp [hx]) (by rw [hux]; try rfl) ?_
   (repeat ((conv => whnf); first | (with_reducible refine Fork.mk (fun hq => ?_) (fun hc => ?_)); rotate_left; (exfalso; first | omega | (simp [eqC, cellsI, idv, idl] at hc; done) | (simp [eqC, cellsI, idv, idl] at hc; omega) | contradiction); (try clear hq) | (with_reducible refine Fork.mk (fun hc => ?_) (fun hq => ?_)); (exfalso; first | omega | (simp [eqC, cellsI, idv, idl] at hc; done) | (simp [eqC, cellsI, idv, idl] at hc; omega) | contradiction); (try clear hq) | (with_reducible refine Owe.mk ?_ ?_); (first | omega | (unfold most; omega) | decide +kernel | assumption | (simp [most]; done) | (simp [most]; omega)) | (with_reducible intro z hz); first | (replace hz := hz (by omega); subst hz) | subst hz)); try (conv => whnf)
   refine CallV.mk _ (hC _ _ _ (PCw.of (hI))) (fun js hjs => ?_); subst hjs
   (repeat ((conv => whnf); first | (with_reducible refine Fork.mk (fun hq => ?_) (fun hc => ?_)); rotate_left; (exfalso; first | omega | (simp [eqC, cellsI, idv, idl] at hc; done) | (simp [eqC, cellsI, idv, idl] at hc; omega) | contradiction); (try clear hq) | (with_reducible refine Fork.mk (fun hc => ?_) (fun hq => ?_)); (exfalso; first | omega | (simp [eqC, cellsI, idv, idl] at hc; done) | (simp [eqC, cellsI, idv, idl] at hc; omega) | contradiction); (try clear hq) | (with_reducible refine Owe.mk ?_ ?_); (first | omega | (unfold most; omega) | decide +kernel | assumption | (simp [most]; done) | (simp [most]; omega)) | (with_reducible intro z hz); first | (replace hz := hz (by omega); subst hz) | subst hz)); try (conv => whnf)
   exact ⟨k + 1, by omega, by dsimp only; omega, (Weak.slots 0 (by first | omega | (rw [h0]; exact Nat.le_of_ble_eq_true rfl)) rfl rfl (by first | (simp only [List.all_cons, List.all_nil, blkBelow, belowL_imm, belowL, belowB, Bool.and_true, Bool.true_and]; done) | rfl | (simp only [List.all_cons, List.all_nil, blkBelow, belowL_imm, belowL, belowB, Bool.and_true, Bool.true_and]; first | done | decide) | simp [blkBelow, belowB, belowL, belowL_imm]) (by repeat (first | exact Wk.nil | refine Wk.drop16 ?_ | refine Wk.drop4 ?_ | refine Wk.drop ?_ | refine Wk.eq (by with_reducible rfl) rfl ?_ | refine Wk.eq (congrArg (fun z => PV.imm (IV.int IntKind.i64 z)) (by first | omega | (simp; done) | (simp; omega))) rfl ?_ | refine Wk.eq rfl rfl ?_)))⟩
 · (repeat ((conv => whnf); first | (with_reducible refine Fork.mk (fun hq => ?_) (fun hc => ?_)); rotate_left; (exfalso; first | omega | (simp [eqC, cellsI, idv, idl] at hc; done) | (simp [eqC, cellsI, idv, idl] at hc; omega) | contradiction); (try clear hq) | (with_reducible refine Fork.mk (fun hc => ?_) (fun hq => ?_)); (exfalso; first | omega | (simp [eqC, cellsI, idv, idl] at hc; done) | (simp [eqC, cellsI, idv, idl] at hc; omega) | contradiction); (try clear hq) | (with_reducible refine Owe.mk ?_ ?_); (first | omega | (unfold most; omega) | decide +kernel | assumption | (simp [most]; done) | (simp [most]; omega)) | (with_reducible intro z hz); first | (replace hz := hz (by omega); subst hz) | subst hz)); try (conv => whnf)
   refine hfin _ ?_
   obtain rfl : k = u.kids.length := by omega
   rw [List.take_length, ← hcu]
   exact ILes.refl _
theorem rcount_pc (n : Nat) : ∀ (u : Ut), u.count ≤ n → n ≤ 100000000 → PC Tryz.prog envU 29 [uv u] [.int .i64 u.count] := by
 induction n with
 | zero => intro u h; have := count_pos u; omega
 | succ n ih =>
 intro u hn hM
 have hcu := Ut.count_eq u
 have hkl := kids_counts u.kids
 have hml : (u.kids.map uv).length = u.kids.length := List.length_map _
 rw [uv_eq]
 refine PC.of_vc (T := tb0) eqs_ok tb_ok rfl mixed Tryz.func29 rfl rfl ?_; intro Γ C WK LP fin h0 hW hC hB hR hLP hfin
 (repeat ((conv => whnf); first | (with_reducible refine Fork.mk (fun hq => ?_) (fun hc => ?_)); rotate_left; (exfalso; first | omega | (simp [eqC, cellsI, idv, idl] at hc; done) | (simp [eqC, cellsI, idv, idl] at hc; omega) | contradiction); (try clear hq) | (with_reducible refine Fork.mk (fun hc => ?_) (fun hq => ?_)); (exfalso; first | omega | (simp [eqC, cellsI, idv, idl] at hc; done) | (simp [eqC, cellsI, idv, idl] at hc; omega) | contradiction); (try clear hq) | (with_reducible refine Owe.mk ?_ ?_); (first | omega | (unfold most; omega) | decide +kernel | assumption | (simp [most]; done) | (simp [most]; omega)) | (with_reducible intro z hz); first | (replace hz := hz (by omega); subst hz) | subst hz)); try (conv => whnf)
 refine hLP _ _ _ Nat (fun k => ⟨[.any, .ptr 0 1 0, .any, .imm (.int .i64 (1 + Ut.counts (u.kids.take k) : Nat)), .imm (.int .i64 (k : Nat)), .any, .any, .any, .any, .any, .any, .any, .any, .any, .any, .any, .any, .any, .any, .any, .any], [.box 1 [.imm (.int .i64 u.id.x), .imm (.int .i64 u.id.y), .imm (.int .i64 u.id.z), .imm (.int .i64 u.kind), .imm (.str u.label), .imm (.sl 4 (u.head.map wdv)), .imm (.sl 4 (u.words.map wdv)), .imm (.sl 8 (u.kids.map uv))]]⟩) (fun k => k ≤ u.kids.length) (fun k => u.kids.length - k) 0 (Nat.zero_le _) (Weak.slots 1 (by first | omega | (rw [h0]; exact Nat.le_of_ble_eq_true rfl)) rfl rfl (by first | (simp only [List.all_cons, List.all_nil, blkBelow, belowL_imm, belowL, belowB, Bool.and_true, Bool.true_and]; done) | rfl | (simp only [List.all_cons, List.all_nil, blkBelow, belowL_imm, belowL, belowB, Bool.and_true, Bool.true_and]; first | done | decide) | simp [blkBelow, belowB, belowL, belowL_imm]) (by repeat (first | exact Wk.nil | refine Wk.drop16 ?_ | refine Wk.drop4 ?_ | refine Wk.drop ?_ | refine Wk.eq (by with_reducible rfl) rfl ?_ | refine Wk.eq (congrArg (fun z => PV.imm (IV.int IntKind.i64 z)) (by first | omega | (simp [Ut.counts]; done) | (simp [Ut.counts]; omega))) rfl ?_ | refine Wk.eq (by simp [Ut.counts]) rfl ?_ | refine Wk.eq rfl rfl ?_))) ?_
 intro k hk
 by_cases hlt : k < u.kids.length
 · obtain ⟨x, hx⟩ := kid_at hlt
   have h1 := kid_lt' hx
   have hI := ih x (by omega) (by omega)
   have hux := uv_eq x
   rw [hux] at hI
   (repeat ((conv => whnf); first | (with_reducible refine Fork.mk (fun hq => ?_) (fun hc => ?_)); rotate_left; (exfalso; first | omega | (simp [eqC, cellsI, idv, idl] at hc; done) | (simp [eqC, cellsI, idv, idl] at hc; omega) | contradiction); (try clear hq) | (with_reducible refine Fork.mk (fun hc => ?_) (fun hq => ?_)); (exfalso; first | omega | (simp [eqC, cellsI, idv, idl] at hc; done) | (simp [eqC, cellsI, idv, idl] at hc; omega) | contradiction); (try clear hq) | (with_reducible refine Owe.mk ?_ ?_); (first | omega | (unfold most; omega) | decide +kernel | assumption | (simp [most]; done) | (simp [most]; omega)) | (with_reducible intro z hz); first | (replace hz := hz (by omega); subst hz) | subst hz)); try (conv => whnf)
   refine Idx.mk k (uv x) _ rfl (by simp [hx]) (by rw [hux]; try rfl) ?_
   (repeat ((conv => whnf); first | (with_reducible refine Fork.mk (fun hq => ?_) (fun hc => ?_)); rotate_left; (exfalso; first | omega | (simp [eqC, cellsI, idv, idl] at hc; done) | (simp [eqC, cellsI, idv, idl] at hc; omega) | contradiction); (try clear hq) | (with_reducible refine Fork.mk (fun hc => ?_) (fun hq => ?_)); (exfalso; first | omega | (simp [eqC, cellsI, idv, idl] at hc; done) | (simp [eqC, cellsI, idv, idl] at hc; omega) | contradiction); (try clear hq) | (with_reducible refine Owe.mk ?_ ?_); (first | omega | (unfold most; omega) | decide +kernel | assumption | (simp [most]; done) | (simp [most]; omega)) | (with_reducible intro z hz); first | (replace hz := hz (by omega); subst hz) | subst hz)); try (conv => whnf)
   refine CallV.mk _ (hC _ _ _ (PCw.of (hI))) (fun js hjs => ?_); subst hjs
   (repeat ((conv => whnf); first | (with_reducible refine Fork.mk (fun hq => ?_) (fun hc => ?_)); rotate_left; (exfalso; first | omega | (simp [eqC, cellsI, idv, idl] at hc; done) | (simp [eqC, cellsI, idv, idl] at hc; omega) | contradiction); (try clear hq) | (with_reducible refine Fork.mk (fun hc => ?_) (fun hq => ?_)); (exfalso; first | omega | (simp [eqC, cellsI, idv, idl] at hc; done) | (simp [eqC, cellsI, idv, idl] at hc; omega) | contradiction); (try clear hq) | (with_reducible refine Owe.mk ?_ ?_); (first | omega | (unfold most; omega) | decide +kernel | assumption | (simp [most]; done) | (simp [most]; omega)) | (with_reducible intro z hz); first | (replace hz := hz (by omega); subst hz) | subst hz)); try (conv => whnf)
   exact ⟨k + 1, by omega, by dsimp only; omega, (Weak.slots 1 (by first | omega | (rw [h0]; exact Nat.le_of_ble_eq_true rfl)) rfl rfl (by first | (simp only [List.all_cons, List.all_nil, blkBelow, belowL_imm, belowL, belowB, Bool.and_true, Bool.true_and]; done) | rfl | (simp only [List.all_cons, List.all_nil, blkBelow, belowL_imm, belowL, belowB, Bool.and_true, Bool.true_and]; first | done | decide) | simp [blkBelow, belowB, belowL, belowL_imm]) (by repeat (first | exact Wk.nil | refine Wk.drop16 ?_ | refine Wk.drop4 ?_ | refine Wk.drop ?_ | refine Wk.eq (by with_reducible rfl) rfl ?_ | refine Wk.eq (congrArg (fun z => PV.imm (IV.int IntKind.i64 z)) (by first | omega | (simp; done) | (simp; omega))) rfl ?_ | refine Wk.eq rfl rfl ?_)))⟩
 · (repeat ((conv => whnf); first | (with_reducible refine Fork.mk (fun hq => ?_) (fun hc => ?_)); rotate_left; (exfalso; first | omega | (simp [eqC, cellsI, idv, idl] at hc; done) | (simp [eqC, cellsI, idv, idl] at hc; omega) | contradiction); (try clear hq) | (with_reducible refine Fork.mk (fun hc => ?_) (fun hq => ?_)); (exfalso; first | omega | (simp [eqC, cellsI, idv, idl] at hc; done) | (simp [eqC, cellsI, idv, idl] at hc; omega) | contradiction); (try clear hq) | (with_reducible refine Owe.mk ?_ ?_); (first | omega | (unfold most; omega) | decide +kernel | assumption | (simp [most]; done) | (simp [most]; omega)) | (with_reducible intro z hz); first | (replace hz := hz (by omega); subst hz) | subst hz)); try (conv => whnf)
   refine hfin _ ?_
   obtain rfl : k = u.kids.length := by omega
   rw [List.take_length, ← hcu]
   exact ILes.refl _
theorem rdepth_pc (n : Nat) : ∀ (u : Ut), u.count ≤ n → n ≤ 100000000 → u.depth ≤ 100000000 → PC Tryz.prog envU 38 [uv u] [.int .i64 u.depth] := by
 induction n with
 | zero => intro u h; have := count_pos u; omega
 | succ n ih =>
 intro u hn hM hD
 have hde : u.depth = Ut.depths u.kids := by cases u; exact depth_mk _ _ _ _ _ _
 have hml : (u.kids.map uv).length = u.kids.length := List.length_map _
 rw [uv_eq]
 refine PC.of_vc (T := tb0) eqs_ok tb_ok rfl mixed Tryz.func38 rfl rfl ?_; intro Γ C WK LP fin h0 hW hC hB hR hLP hfin
 (repeat ((conv => whnf); first | (with_reducible refine Fork.mk (fun hq => ?_) (fun hc => ?_)); rotate_left; (exfalso; first | omega | (simp [eqC, cellsI, idv, idl] at hc; done) | (simp [eqC, cellsI, idv, idl] at hc; omega) | contradiction); (try clear hq) | (with_reducible refine Fork.mk (fun hc => ?_) (fun hq => ?_)); (exfalso; first | omega | (simp [eqC, cellsI, idv, idl] at hc; done) | (simp [eqC, cellsI, idv, idl] at hc; omega) | contradiction); (try clear hq) | (with_reducible refine Owe.mk ?_ ?_); (first | omega | (unfold most; omega) | decide +kernel | assumption | (simp [most]; done) | (simp [most]; omega)) | (with_reducible intro z hz); first | (replace hz := hz (by omega); subst hz) | subst hz)); try (conv => whnf)
 refine hLP _ _ _ Nat (fun k => ⟨[.any, .ptr 0 1 0, .any, .imm (.int .i64 (Ut.depths (u.kids.take k) : Nat)), .imm (.int .i64 (k : Nat)), .any, .any, .any, .any, .any, .any, .any, .any, .any, .any, .any, .any, .any, .any, .any, .any, .any], [.box 1 [.imm (.int .i64 u.id.x), .imm (.int .i64 u.id.y), .imm (.int .i64 u.id.z), .imm (.int .i64 u.kind), .imm (.str u.label), .imm (.sl 4 (u.head.map wdv)), .imm (.sl 4 (u.words.map wdv)), .imm (.sl 8 (u.kids.map uv))]]⟩) (fun k => k ≤ u.kids.length) (fun k => u.kids.length - k) 0 (Nat.zero_le _) (Weak.slots 1 (by first | omega | (rw [h0]; exact Nat.le_of_ble_eq_true rfl)) rfl rfl (by first | (simp only [List.all_cons, List.all_nil, blkBelow, belowL_imm, belowL, belowB, Bool.and_true, Bool.true_and]; done) | rfl | (simp only [List.all_cons, List.all_nil, blkBelow, belowL_imm, belowL, belowB, Bool.and_true, Bool.true_and]; first | done | decide) | simp [blkBelow, belowB, belowL, belowL_imm]) (by repeat (first | exact Wk.nil | refine Wk.drop16 ?_ | refine Wk.drop4 ?_ | refine Wk.drop ?_ | refine Wk.eq (by with_reducible rfl) rfl ?_ | refine Wk.eq (congrArg (fun z => PV.imm (IV.int IntKind.i64 z)) (by first | omega | (simp [Ut.depths]; done) | (simp [Ut.depths]; omega))) rfl ?_ | refine Wk.eq (by simp [Ut.depths]) rfl ?_ | refine Wk.eq rfl rfl ?_))) ?_
 intro k hk
 by_cases hlt : k < u.kids.length
 · obtain ⟨x, hx⟩ := kid_at hlt
   have h1 := kid_lt' hx
   have h2 := depths_take hx
   have h3 := depth_kid hx
   have hI := ih x (by omega) (by omega) (by omega)
   have hux := uv_eq x
   rw [hux] at hI
   (repeat ((conv => whnf); first | (with_reducible refine Fork.mk (fun hq => ?_) (fun hc => ?_)); rotate_left; (exfalso; first | omega | (simp [eqC, cellsI, idv, idl] at hc; done) | (simp [eqC, cellsI, idv, idl] at hc; omega) | contradiction); (try clear hq) | (with_reducible refine Fork.mk (fun hc => ?_) (fun hq => ?_)); (exfalso; first | omega | (simp [eqC, cellsI, idv, idl] at hc; done) | (simp [eqC, cellsI, idv, idl] at hc; omega) | contradiction); (try clear hq) | (with_reducible refine Owe.mk ?_ ?_); (first | omega | (unfold most; omega) | decide +kernel | assumption | (simp [most]; done) | (simp [most]; omega)) | (with_reducible intro z hz); first | (replace hz := hz (by omega); subst hz) | subst hz)); try (conv => whnf)
   refine Idx.mk k (uv x) _ rfl (by simp [hx]) (by rw [hux]; try rfl) ?_
   (repeat ((conv => whnf); first | (with_reducible refine Fork.mk (fun hq => ?_) (fun hc => ?_)); rotate_left; (exfalso; first | omega | (simp [eqC, cellsI, idv, idl] at hc; done) | (simp [eqC, cellsI, idv, idl] at hc; omega) | contradiction); (try clear hq) | (with_reducible refine Fork.mk (fun hc => ?_) (fun hq => ?_)); (exfalso; first | omega | (simp [eqC, cellsI, idv, idl] at hc; done) | (simp [eqC, cellsI, idv, idl] at hc; omega) | contradiction); (try clear hq) | (with_reducible refine Owe.mk ?_ ?_); (first | omega | (unfold most; omega) | decide +kernel | assumption | (simp [most]; done) | (simp [most]; omega)) | (with_reducible intro z hz); first | (replace hz := hz (by omega); subst hz) | subst hz)); try (conv => whnf)
   refine CallV.mk _ (hC _ _ _ (PCw.of (hI))) (fun js hjs => ?_); subst hjs
   (repeat ((conv => whnf); first | (with_reducible refine Fork.mk (fun hq => ?_) (fun hc => ?_)); rotate_left; (exfalso; first | omega | (simp [eqC, cellsI, idv, idl] at hc; done) | (simp [eqC, cellsI, idv, idl] at hc; omega) | contradiction); (try clear hq) | (with_reducible refine Fork.mk (fun hc => ?_) (fun hq => ?_)); (exfalso; first | omega | (simp [eqC, cellsI, idv, idl] at hc; done) | (simp [eqC, cellsI, idv, idl] at hc; omega) | contradiction); (try clear hq) | (with_reducible refine Owe.mk ?_ ?_); (first | omega | (unfold most; omega) | decide +kernel | assumption | (simp [most]; done) | (simp [most]; omega)) | (with_reducible intro z hz); first | (replace hz := hz (by omega); subst hz) | subst hz)); try (conv => whnf)
   intro z hz
   (repeat ((conv => whnf); first | (with_reducible refine Fork.mk (fun hq => ?_) (fun hc => ?_)); rotate_left; (exfalso; first | omega | (simp [eqC, cellsI, idv, idl] at hc; done) | (simp [eqC, cellsI, idv, idl] at hc; omega) | contradiction); (try clear hq) | (with_reducible refine Fork.mk (fun hc => ?_) (fun hq => ?_)); (exfalso; first | omega | (simp [eqC, cellsI, idv, idl] at hc; done) | (simp [eqC, cellsI, idv, idl] at hc; omega) | contradiction); (try clear hq) | (with_reducible refine Owe.mk ?_ ?_); (first | omega | (unfold most; omega) | decide +kernel | assumption | (simp [most]; done) | (simp [most]; omega)) | (with_reducible intro z hz); first | (replace hz := hz (by omega); subst hz) | subst hz)); try (conv => whnf)
   exact ⟨k + 1, by omega, by dsimp only; omega, (Weak.slots 1 (by first | omega | (rw [h0]; exact Nat.le_of_ble_eq_true rfl)) rfl rfl (by first | (simp only [List.all_cons, List.all_nil, blkBelow, belowL_imm, belowL, belowB, Bool.and_true, Bool.true_and]; done) | rfl | (simp only [List.all_cons, List.all_nil, blkBelow, belowL_imm, belowL, belowB, Bool.and_true, Bool.true_and]; first | done | decide) | simp [blkBelow, belowB, belowL, belowL_imm]) (by repeat (first | exact Wk.nil | refine Wk.drop16 ?_ | refine Wk.drop4 ?_ | refine Wk.drop ?_ | refine Wk.eq (by with_reducible rfl) rfl ?_ | refine Wk.eq (congrArg (fun z => PV.imm (IV.int IntKind.i64 z)) (by first | omega | (simp; done) | (simp; omega))) rfl ?_ | refine Wk.eq rfl rfl ?_)))⟩
 · (repeat ((conv => whnf); first | (with_reducible refine Fork.mk (fun hq => ?_) (fun hc => ?_)); rotate_left; (exfalso; first | omega | (simp [eqC, cellsI, idv, idl] at hc; done) | (simp [eqC, cellsI, idv, idl] at hc; omega) | contradiction); (try clear hq) | (with_reducible refine Fork.mk (fun hc => ?_) (fun hq => ?_)); (exfalso; first | omega | (simp [eqC, cellsI, idv, idl] at hc; done) | (simp [eqC, cellsI, idv, idl] at hc; omega) | contradiction); (try clear hq) | (with_reducible refine Owe.mk ?_ ?_); (first | omega | (unfold most; omega) | decide +kernel | assumption | (simp [most]; done) | (simp [most]; omega)) | (with_reducible intro z hz); first | (replace hz := hz (by omega); subst hz) | subst hz)); try (conv => whnf)
   refine hfin _ ?_
   obtain rfl : k = u.kids.length := by omega
   rw [List.take_length, ← hde]
   exact ILes.refl _
def small (u : Ut) : Prop := ∀ x ∈ u.all, x.head.length ≤ 100000000 ∧ x.words.length ≤ 100000000
theorem small_kid {u x : Ut} (h : small u) (hx : x ∈ u.kids) : small x := fun y hy => h y (by rw [Ut.all_eq]; exact List.mem_cons_of_mem _ (mem_alls.2 ⟨x, hx, hy⟩))
theorem kid_count {u x : Ut} (hx : x ∈ u.kids) : x.count < u.count := by
 obtain ⟨k, hk, rfl⟩ := List.getElem_of_mem hx
 have := kid_lt' (List.getElem?_eq_getElem hk)
 omega
theorem clone_pc (n : Nat) : ∀ (u : Ut), u.count ≤ n → n ≤ 100000000 → small u → PC Tryz.prog envU 97 [uv u] [uv u] := by
 induction n with
 | zero => intro u h; have := count_pos u; omega
 | succ n ih =>
 intro u hn hM hs
 have hue := uv_eq u
 have hE := eachkid_pc 97 id u (by omega) (fun x hx => ih x (by have := kid_count hx; omega) (by omega) (small_kid hs hx))
 have hsu := hs u (self_all u)
 have hl1 : (u.head.map wdv).length = u.head.length := List.length_map _
 have hl2 : (u.words.map wdv).length = u.words.length := List.length_map _
 rw [hue] at hE ⊢
 refine PC.of_vc (T := (tbf fun r => match r with | 3 => [2, 3] | _ => [])) eqs_ok tb_ok rfl mixed Tryz.func97 rfl rfl ?_; intro Γ C WK LP fin h0 hW hC hB hR hLP hfin
 (repeat ((conv => whnf); first | (with_reducible refine Fork.mk (fun hq => ?_) (fun hc => ?_)); rotate_left; (exfalso; first | omega | (simp [eqC, cellsI, idv, idl] at hc; done) | (simp [eqC, cellsI, idv, idl] at hc; omega) | contradiction); (try clear hq) | (with_reducible refine Fork.mk (fun hc => ?_) (fun hq => ?_)); (exfalso; first | omega | (simp [eqC, cellsI, idv, idl] at hc; done) | (simp [eqC, cellsI, idv, idl] at hc; omega) | contradiction); (try clear hq) | (with_reducible refine Owe.mk ?_ ?_); (first | omega | (unfold most; omega) | decide +kernel | assumption | (simp [most]; done) | (simp [most]; omega)) | (with_reducible intro z hz); first | (replace hz := hz (by omega); subst hz) | subst hz)); try (conv => whnf)
 refine Imms.mk _ rfl ?_
 (repeat ((conv => whnf); first | (with_reducible refine Fork.mk (fun hq => ?_) (fun hc => ?_)); rotate_left; (exfalso; first | omega | (simp [eqC, cellsI, idv, idl] at hc; done) | (simp [eqC, cellsI, idv, idl] at hc; omega) | contradiction); (try clear hq) | (with_reducible refine Fork.mk (fun hc => ?_) (fun hq => ?_)); (exfalso; first | omega | (simp [eqC, cellsI, idv, idl] at hc; done) | (simp [eqC, cellsI, idv, idl] at hc; omega) | contradiction); (try clear hq) | (with_reducible refine Owe.mk ?_ ?_); (first | omega | (unfold most; omega) | decide +kernel | assumption | (simp [most]; done) | (simp [most]; omega)) | (with_reducible intro z hz); first | (replace hz := hz (by omega); subst hz) | subst hz)); try (conv => whnf)
 refine Imms.mk (u.words.map wdv) (fzL_imm _ _ _ _) ?_
 (repeat ((conv => whnf); first | (with_reducible refine Fork.mk (fun hq => ?_) (fun hc => ?_)); rotate_left; (exfalso; first | omega | (simp [eqC, cellsI, idv, idl] at hc; done) | (simp [eqC, cellsI, idv, idl] at hc; omega) | contradiction); (try clear hq) | (with_reducible refine Fork.mk (fun hc => ?_) (fun hq => ?_)); (exfalso; first | omega | (simp [eqC, cellsI, idv, idl] at hc; done) | (simp [eqC, cellsI, idv, idl] at hc; omega) | contradiction); (try clear hq) | (with_reducible refine Owe.mk ?_ ?_); (first | omega | (unfold most; omega) | decide +kernel | assumption | (simp [most]; done) | (simp [most]; omega)) | (with_reducible intro z hz); first | (replace hz := hz (by omega); subst hz) | subst hz)); try (conv => whnf)
 refine CallV.mk _ (hC _ _ _ (PCw.of (hE))) (fun js hjs => ?_); subst hjs
 (repeat ((conv => whnf); first | (with_reducible refine Fork.mk (fun hq => ?_) (fun hc => ?_)); rotate_left; (exfalso; first | omega | (simp [eqC, cellsI, idv, idl] at hc; done) | (simp [eqC, cellsI, idv, idl] at hc; omega) | contradiction); (try clear hq) | (with_reducible refine Fork.mk (fun hc => ?_) (fun hq => ?_)); (exfalso; first | omega | (simp [eqC, cellsI, idv, idl] at hc; done) | (simp [eqC, cellsI, idv, idl] at hc; omega) | contradiction); (try clear hq) | (with_reducible refine Owe.mk ?_ ?_); (first | omega | (unfold most; omega) | decide +kernel | assumption | (simp [most]; done) | (simp [most]; omega)) | (with_reducible intro z hz); first | (replace hz := hz (by omega); subst hz) | subst hz)); try (conv => whnf)
 refine hfin _ ?_
 rw [List.map_id]
 exact ILes.refl _
def zeroU : Ut := .mk .zero 0 ⟨#[]⟩ [] [] []
theorem zero_le : ILe (.agg [.int .i64 0, .int .i64 0, .int .i64 0, .int .i64 0, .str ⟨#[]⟩, .nil, .nil, .nil]) (uv zeroU) := by
 show ILe _ (uv (.mk .zero 0 ⟨#[]⟩ [] [] []))
 rw [uv_mk]
 exact ILes.agg (.cons (.refl _) (.cons (.refl _) (.cons (.refl _) (.cons (.refl _) (.cons (.refl _) (.cons (.nil 4) (.cons (.nil 4) (.cons (.nil 8) (.refl [])))))))))
def findU (t : Trip) (u : Ut) : Ut := match linL t u with
 | x :: _ => x
 | [] => zeroU
def foundB (t : Trip) (u : Ut) : Bool := match linL t u with
 | _ :: _ => true
 | [] => false
theorem lin_mem {t : Trip} {u x : Ut} {r : List Ut} (h : linL t u = x :: r) : x.id = t ∧ x ∈ u.all := lin_head u.count (Nat.le_refl _) x r h
theorem small_all {u x : Ut} (h : small u) (hx : x ∈ u.all) : small x := fun y hy => h y (all_trans u.count u x (Nat.le_refl _) hx y hy)
mutual
theorem all_count : ∀ {u x : Ut}, x ∈ u.all → x.count ≤ u.count
 | .mk id kind label head words kids, x, h => by
   rw [all_mk] at h
   rcases List.mem_cons.1 h with rfl | h
   · exact Nat.le_refl _
   · have := alls_count h
     rw [count_mk]
     omega
theorem alls_count : ∀ {l : List Ut} {x : Ut}, x ∈ Ut.alls l → x.count ≤ Ut.counts l
 | [], x, h => by simp [Ut.alls] at h
 | u :: r, x, h => by
   simp only [Ut.alls, List.mem_append] at h
   simp only [Ut.counts]
   rcases h with h | h
   · have := all_count h; omega
   · have := alls_count h; omega
end
theorem find_pc (t : Trip) (u : Ut) (hM : u.count ≤ 100000000) (hs : small u) : PC Tryz.prog envU 71 [uv u, idv t] [uv (findU t u), .bool (foundB t u)] := by
 have hue := uv_eq u
 have hL := lineage_pc t u hM
 have hml : ((linL t u).map uv).length = (linL t u).length := List.length_map _
 rw [hue] at hL ⊢
 unfold idv idl at hL ⊢
 cases hc : linL t u with
 | nil =>
   have hl0 : (linL t u).length = 0 := by rw [hc]; rfl
   refine PC.of_vc (T := tb0) eqs_ok tb_ok rfl mixed Tryz.func71 rfl rfl ?_; intro Γ C WK LP fin h0 hW hC hB hR hLP hfin
   (repeat ((conv => whnf); first | (with_reducible refine Fork.mk (fun hq => ?_) (fun hc => ?_)); rotate_left; (exfalso; first | omega | (simp [eqC, cellsI, idv, idl] at hc; done) | (simp [eqC, cellsI, idv, idl] at hc; omega) | contradiction); (try clear hq) | (with_reducible refine Fork.mk (fun hc => ?_) (fun hq => ?_)); (exfalso; first | omega | (simp [eqC, cellsI, idv, idl] at hc; done) | (simp [eqC, cellsI, idv, idl] at hc; omega) | contradiction); (try clear hq) | (with_reducible refine Owe.mk ?_ ?_); (first | omega | (unfold most; omega) | decide +kernel | assumption | (simp [most]; done) | (simp [most]; omega)) | (with_reducible intro z hz); first | (replace hz := hz (by omega); subst hz) | subst hz)); try (conv => whnf)
   refine CallV.mk _ (hC _ _ _ (PCw.of (hL))) (fun js hjs => ?_); subst hjs
   (repeat ((conv => whnf); first | (with_reducible refine Fork.mk (fun hq => ?_) (fun hc => ?_)); rotate_left; (exfalso; first | omega | (simp [eqC, cellsI, idv, idl] at hc; done) | (simp [eqC, cellsI, idv, idl] at hc; omega) | contradiction); (try clear hq) | (with_reducible refine Fork.mk (fun hc => ?_) (fun hq => ?_)); (exfalso; first | omega | (simp [eqC, cellsI, idv, idl] at hc; done) | (simp [eqC, cellsI, idv, idl] at hc; omega) | contradiction); (try clear hq) | (with_reducible refine Owe.mk ?_ ?_); (first | omega | (unfold most; omega) | decide +kernel | assumption | (simp [most]; done) | (simp [most]; omega)) | (with_reducible intro z hz); first | (replace hz := hz (by omega); subst hz) | subst hz)); try (conv => whnf)
   refine hfin _ ?_
   unfold findU foundB
   rw [hc]
   exact .cons zero_le (.refl _)
 | cons x r =>
   have hl0 : (linL t u).length = r.length + 1 := by rw [hc]; rfl
   obtain ⟨hxi, hxa⟩ := lin_mem hc
   have hux := uv_eq x
   have hcx : x.count ≤ u.count := all_count hxa
   have hcl := clone_pc x.count x (Nat.le_refl _) (by omega) (small_all hs hxa)
   rw [hux] at hcl
   refine PC.of_vc (T := tb0) eqs_ok tb_ok rfl mixed Tryz.func71 rfl rfl ?_; intro Γ C WK LP fin h0 hW hC hB hR hLP hfin
   (repeat ((conv => whnf); first | (with_reducible refine Fork.mk (fun hq => ?_) (fun hc => ?_)); rotate_left; (exfalso; first | omega | (simp [eqC, cellsI, idv, idl] at hc; done) | (simp [eqC, cellsI, idv, idl] at hc; omega) | contradiction); (try clear hq) | (with_reducible refine Fork.mk (fun hc => ?_) (fun hq => ?_)); (exfalso; first | omega | (simp [eqC, cellsI, idv, idl] at hc; done) | (simp [eqC, cellsI, idv, idl] at hc; omega) | contradiction); (try clear hq) | (with_reducible refine Owe.mk ?_ ?_); (first | omega | (unfold most; omega) | decide +kernel | assumption | (simp [most]; done) | (simp [most]; omega)) | (with_reducible intro z hz); first | (replace hz := hz (by omega); subst hz) | subst hz)); try (conv => whnf)
   refine CallV.mk _ (hC _ _ _ (PCw.of (hL))) (fun js hjs => ?_); subst hjs
   (repeat ((conv => whnf); first | (with_reducible refine Fork.mk (fun hq => ?_) (fun hc => ?_)); rotate_left; (exfalso; first | omega | (simp [eqC, cellsI, idv, idl] at hc; done) | (simp [eqC, cellsI, idv, idl] at hc; omega) | contradiction); (try clear hq) | (with_reducible refine Fork.mk (fun hc => ?_) (fun hq => ?_)); (exfalso; first | omega | (simp [eqC, cellsI, idv, idl] at hc; done) | (simp [eqC, cellsI, idv, idl] at hc; omega) | contradiction); (try clear hq) | (with_reducible refine Owe.mk ?_ ?_); (first | omega | (unfold most; omega) | decide +kernel | assumption | (simp [most]; done) | (simp [most]; omega)) | (with_reducible intro z hz); first | (replace hz := hz (by omega); subst hz) | subst hz)); try (conv => whnf)
   refine Idx.mk 0 (uv x) _ rfl (by simp [hc]) (by rw [hux]; try rfl) ?_
   (repeat ((conv => whnf); first | (with_reducible refine Fork.mk (fun hq => ?_) (fun hc => ?_)); rotate_left; (exfalso; first | omega | (simp [eqC, cellsI, idv, idl] at hc; done) | (simp [eqC, cellsI, idv, idl] at hc; omega) | contradiction); (try clear hq) | (with_reducible refine Fork.mk (fun hc => ?_) (fun hq => ?_)); (exfalso; first | omega | (simp [eqC, cellsI, idv, idl] at hc; done) | (simp [eqC, cellsI, idv, idl] at hc; omega) | contradiction); (try clear hq) | (with_reducible refine Owe.mk ?_ ?_); (first | omega | (unfold most; omega) | decide +kernel | assumption | (simp [most]; done) | (simp [most]; omega)) | (with_reducible intro z hz); first | (replace hz := hz (by omega); subst hz) | subst hz)); try (conv => whnf)
   refine CallV.mk _ (hC _ _ _ (PCw.of (hcl))) (fun js hjs => ?_); subst hjs
   (repeat ((conv => whnf); first | (with_reducible refine Fork.mk (fun hq => ?_) (fun hc => ?_)); rotate_left; (exfalso; first | omega | (simp [eqC, cellsI, idv, idl] at hc; done) | (simp [eqC, cellsI, idv, idl] at hc; omega) | contradiction); (try clear hq) | (with_reducible refine Fork.mk (fun hc => ?_) (fun hq => ?_)); (exfalso; first | omega | (simp [eqC, cellsI, idv, idl] at hc; done) | (simp [eqC, cellsI, idv, idl] at hc; omega) | contradiction); (try clear hq) | (with_reducible refine Owe.mk ?_ ?_); (first | omega | (unfold most; omega) | decide +kernel | assumption | (simp [most]; done) | (simp [most]; omega)) | (with_reducible intro z hz); first | (replace hz := hz (by omega); subst hz) | subst hz)); try (conv => whnf)
   refine hfin _ ?_
   unfold findU foundB
   rw [hc, hux]
   exact ILes.refl _
theorem find_kid {t : Trip} {u x : Ut} {k : Nat} (hid : u.id ≠ t) (hx : u.kids[k]? = some x) (hno : linK t (u.kids.take k) = []) (hf : foundB t x = true) : findU t u = findU t x ∧ foundB t u = true := by
 unfold foundB findU at *
 cases hc : linL t x with
 | nil => rw [hc] at hf; cases hf
 | cons y r =>
   have hne : linL t x ≠ [] := by rw [hc]; simp
   have hk := linK_hit hx hno hne
   rw [lin_some hid (by rw [hk]; exact hne), hk, hc]
   exact ⟨rfl, rfl⟩
theorem found_nil {t : Trip} {x : Ut} (h : foundB t x = false) : linL t x = [] := by
 unfold foundB at h
 split at h
 · cases h
 · assumption
theorem rfind_pc (t : Trip) (n : Nat) : ∀ (u : Ut), u.count ≤ n → n ≤ 100000000 → PC Tryz.prog envU 25 [uv u, idv t] [uv (findU t u), .bool (foundB t u)] := by
 induction n with
 | zero => intro u h; have := count_pos u; omega
 | succ n ih =>
 intro u hn hM
 have hue := uv_eq u
 have hml : (u.kids.map uv).length = u.kids.length := List.length_map _
 have hkl := kids_counts u.kids
 have hcu := Ut.count_eq u
 rw [hue]
 unfold idv idl
 by_cases hid : u.id = t
 · have hi := trip_eq hid
   refine PC.of_vc (T := tb0) eqs_ok tb_ok rfl mixed Tryz.func25 rfl rfl ?_; intro Γ C WK LP fin h0 hW hC hB hR hLP hfin
   (repeat ((conv => whnf); first | (with_reducible refine Fork.mk (fun hq => ?_) (fun hc => ?_)); rotate_left; (exfalso; first | omega | (simp [eqC, cellsI, idv, idl] at hc; done) | (simp [eqC, cellsI, idv, idl] at hc; omega) | contradiction); (try clear hq) | (with_reducible refine Fork.mk (fun hc => ?_) (fun hq => ?_)); (exfalso; first | omega | (simp [eqC, cellsI, idv, idl] at hc; done) | (simp [eqC, cellsI, idv, idl] at hc; omega) | contradiction); (try clear hq) | (with_reducible refine Owe.mk ?_ ?_); (first | omega | (unfold most; omega) | decide +kernel | assumption | (simp [most]; done) | (simp [most]; omega)) | (with_reducible intro z hz); first | (replace hz := hz (by omega); subst hz) | subst hz)); try (conv => whnf)
   refine hfin _ ?_
   unfold findU foundB
   rw [lin_self hid, hue]
   exact ILes.refl _
 have hi := trip_ne hid
 refine PC.of_vc (T := tb0) eqs_ok tb_ok rfl mixed Tryz.func25 rfl rfl ?_; intro Γ C WK LP fin h0 hW hC hB hR hLP hfin
 (repeat ((conv => whnf); first | (with_reducible refine Fork.mk (fun hq => ?_) (fun hc => ?_)); rotate_left; (exfalso; first | omega | (simp [eqC, cellsI, idv, idl] at hc; done) | (simp [eqC, cellsI, idv, idl] at hc; omega) | contradiction); (try clear hq) | (with_reducible refine Fork.mk (fun hc => ?_) (fun hq => ?_)); (exfalso; first | omega | (simp [eqC, cellsI, idv, idl] at hc; done) | (simp [eqC, cellsI, idv, idl] at hc; omega) | contradiction); (try clear hq) | (with_reducible refine Owe.mk ?_ ?_); (first | omega | (unfold most; omega) | decide +kernel | assumption | (simp [most]; done) | (simp [most]; omega)) | (with_reducible intro z hz); first | (replace hz := hz (by omega); subst hz) | subst hz)); try (conv => whnf)
 refine hLP _ _ _ Nat (fun k => ⟨[.any, .any, .ptr 0 1 0, .ptr 1 1 0, .ptr 2 1 0, .any, .imm (.int .i64 (k : Nat)), .any, .any, .any, .any, .any, .any, .any, .any, .any, .any, .any, .any, .any, .any, .any, .any, .any, .any, .any, .any, .any, .any, .any, .any, .any, .any, .any], [.box 1 [.imm (.int .i64 u.id.x), .imm (.int .i64 u.id.y), .imm (.int .i64 u.id.z), .imm (.int .i64 u.kind), .imm (.str u.label), .imm (.sl 4 (u.head.map wdv)), .imm (.sl 4 (u.words.map wdv)), .imm (.sl 8 (u.kids.map uv))], .box 1 [.imm (.int .i64 t.x), .imm (.int .i64 t.y), .imm (.int .i64 t.z)], .box 1 [.imm (.int .i64 0), .imm (.int .i64 0), .imm (.int .i64 0), .imm (.int .i64 0), .imm (.str ⟨#[]⟩), .imm .nil, .imm .nil, .imm .nil]]⟩) (fun k => k ≤ u.kids.length ∧ linK t (u.kids.take k) = []) (fun k => u.kids.length - k) 0 ⟨Nat.zero_le _, rfl⟩ (Weak.slots 3 (by first | omega | (rw [h0]; exact Nat.le_of_ble_eq_true rfl)) rfl rfl (by first | (simp only [List.all_cons, List.all_nil, blkBelow, belowL_imm, belowL, belowB, Bool.and_true, Bool.true_and]; done) | rfl | (simp only [List.all_cons, List.all_nil, blkBelow, belowL_imm, belowL, belowB, Bool.and_true, Bool.true_and]; first | done | decide) | simp [blkBelow, belowB, belowL, belowL_imm]) (by repeat (first | exact Wk.nil | refine Wk.drop16 ?_ | refine Wk.drop4 ?_ | refine Wk.drop ?_ | refine Wk.eq (by with_reducible rfl) rfl ?_ | refine Wk.eq (congrArg (fun z => PV.imm (IV.int IntKind.i64 z)) (by first | omega | (simp; done) | (simp; omega))) rfl ?_ | refine Wk.eq rfl rfl ?_))) ?_
 rintro k ⟨hk, hno⟩
 by_cases hlt : k < u.kids.length
 · obtain ⟨x, hx⟩ := kid_at hlt
   have h1 := kid_lt' hx
   have hI := ih x (by omega) (by omega)
   have hux := uv_eq x
   have huf := uv_eq (findU t x)
   rw [hux, huf] at hI
   unfold idv idl at hI
   (repeat ((conv => whnf); first | (with_reducible refine Fork.mk (fun hq => ?_) (fun hc => ?_)); rotate_left; (exfalso; first | omega | (simp [eqC, cellsI, idv, idl] at hc; done) | (simp [eqC, cellsI, idv, idl] at hc; omega) | contradiction); (try clear hq) | (with_reducible refine Fork.mk (fun hc => ?_) (fun hq => ?_)); (exfalso; first | omega | (simp [eqC, cellsI, idv, idl] at hc; done) | (simp [eqC, cellsI, idv, idl] at hc; omega) | contradiction); (try clear hq) | (with_reducible refine Owe.mk ?_ ?_); (first | omega | (unfold most; omega) | decide +kernel | assumption | (simp [most]; done) | (simp [most]; omega)) | (with_reducible intro z hz); first | (replace hz := hz (by omega); subst hz) | subst hz)); try (conv => whnf)
   refine Idx.mk k (uv x) _ rfl (by simp [hx]) (by rw [hux]; try rfl) ?_
   (repeat ((conv => whnf); first | (with_reducible refine Fork.mk (fun hq => ?_) (fun hc => ?_)); rotate_left; (exfalso; first | omega | (simp [eqC, cellsI, idv, idl] at hc; done) | (simp [eqC, cellsI, idv, idl] at hc; omega) | contradiction); (try clear hq) | (with_reducible refine Fork.mk (fun hc => ?_) (fun hq => ?_)); (exfalso; first | omega | (simp [eqC, cellsI, idv, idl] at hc; done) | (simp [eqC, cellsI, idv, idl] at hc; omega) | contradiction); (try clear hq) | (with_reducible refine Owe.mk ?_ ?_); (first | omega | (unfold most; omega) | decide +kernel | assumption | (simp [most]; done) | (simp [most]; omega)) | (with_reducible intro z hz); first | (replace hz := hz (by omega); subst hz) | subst hz)); try (conv => whnf)
   refine CallV.mk _ (hC _ _ _ (PCw.of (hI))) (fun js hjs => ?_); subst hjs
   by_cases hf : foundB t x = true
   · obtain ⟨e1, e2⟩ := find_kid hid hx hno hf
     rw [hf]
     (repeat ((conv => whnf); first | (with_reducible refine Fork.mk (fun hq => ?_) (fun hc => ?_)); rotate_left; (exfalso; first | omega | (simp [eqC, cellsI, idv, idl] at hc; done) | (simp [eqC, cellsI, idv, idl] at hc; omega) | contradiction); (try clear hq) | (with_reducible refine Fork.mk (fun hc => ?_) (fun hq => ?_)); (exfalso; first | omega | (simp [eqC, cellsI, idv, idl] at hc; done) | (simp [eqC, cellsI, idv, idl] at hc; omega) | contradiction); (try clear hq) | (with_reducible refine Owe.mk ?_ ?_); (first | omega | (unfold most; omega) | decide +kernel | assumption | (simp [most]; done) | (simp [most]; omega)) | (with_reducible intro z hz); first | (replace hz := hz (by omega); subst hz) | subst hz)); try (conv => whnf)
     refine hfin _ ?_
     rw [e1, e2, huf]
     exact ILes.refl _
   · have hf : foundB t x = false := by simpa using hf
     rw [hf]
     (repeat ((conv => whnf); first | (with_reducible refine Fork.mk (fun hq => ?_) (fun hc => ?_)); rotate_left; (exfalso; first | omega | (simp [eqC, cellsI, idv, idl] at hc; done) | (simp [eqC, cellsI, idv, idl] at hc; omega) | contradiction); (try clear hq) | (with_reducible refine Fork.mk (fun hc => ?_) (fun hq => ?_)); (exfalso; first | omega | (simp [eqC, cellsI, idv, idl] at hc; done) | (simp [eqC, cellsI, idv, idl] at hc; omega) | contradiction); (try clear hq) | (with_reducible refine Owe.mk ?_ ?_); (first | omega | (unfold most; omega) | decide +kernel | assumption | (simp [most]; done) | (simp [most]; omega)) | (with_reducible intro z hz); first | (replace hz := hz (by omega); subst hz) | subst hz)); try (conv => whnf)
     exact ⟨k + 1, ⟨by omega, linK_step hx hno (found_nil hf)⟩, by dsimp only; omega, (Weak.slots 3 (by first | omega | (rw [h0]; exact Nat.le_of_ble_eq_true rfl)) rfl rfl (by first | (simp only [List.all_cons, List.all_nil, blkBelow, belowL_imm, belowL, belowB, Bool.and_true, Bool.true_and]; done) | rfl | (simp only [List.all_cons, List.all_nil, blkBelow, belowL_imm, belowL, belowB, Bool.and_true, Bool.true_and]; first | done | decide) | simp [blkBelow, belowB, belowL, belowL_imm]) (by repeat (first | exact Wk.nil | refine Wk.drop16 ?_ | refine Wk.drop4 ?_ | refine Wk.drop ?_ | refine Wk.eq (by with_reducible rfl) rfl ?_ | refine Wk.eq (congrArg (fun z => PV.imm (IV.int IntKind.i64 z)) (by first | omega | (simp; done) | (simp; omega))) rfl ?_ | refine Wk.eq rfl rfl ?_)))⟩
 · (repeat ((conv => whnf); first | (with_reducible refine Fork.mk (fun hq => ?_) (fun hc => ?_)); rotate_left; (exfalso; first | omega | (simp [eqC, cellsI, idv, idl] at hc; done) | (simp [eqC, cellsI, idv, idl] at hc; omega) | contradiction); (try clear hq) | (with_reducible refine Fork.mk (fun hc => ?_) (fun hq => ?_)); (exfalso; first | omega | (simp [eqC, cellsI, idv, idl] at hc; done) | (simp [eqC, cellsI, idv, idl] at hc; omega) | contradiction); (try clear hq) | (with_reducible refine Owe.mk ?_ ?_); (first | omega | (unfold most; omega) | decide +kernel | assumption | (simp [most]; done) | (simp [most]; omega)) | (with_reducible intro z hz); first | (replace hz := hz (by omega); subst hz) | subst hz)); try (conv => whnf)
   obtain rfl : k = u.kids.length := by omega
   rw [List.take_length] at hno
   refine hfin _ ?_
   unfold findU foundB
   rw [lin_none hid hno]
   exact .cons zero_le (.refl _)
end Go.Proofs.YtmnbobcgjnickaaGreatDoor.Pu
namespace Go.Proofs.YtmnbobcgjnickaaGreatDoor.Pu
open Go Go.Pv
set_option linter.unusedSimpArgs false
open Lab Lcs Go.Proofs.YtmnbobcgjnickaaGreatDoor
set_option maxRecDepth 10000
set_option maxHeartbeats 4000000
def idB (t : Trip) : List CBk := [.box 1 [.imm (.int .i64 t.x), .imm (.int .i64 t.y), .imm (.int .i64 t.z)]]
def clo (f : FuncId) : PV := .clo f [.ptr 0 1 0]
theorem isid_pcb (t : Trip) (x : Ut) : PCB Tryz.prog envU 96 [.imm (uv x), .ptr 0 1 0] ((idB t).map CBk.blk) [.imm (.bool (decide (x.id = t)))] ((idB t).map CBk.blk) := by
 rw [uv_eq]
 by_cases hid : x.id = t
 · have hi := trip_eq hid
   rw [decide_eq_true hid]
   refine PCB.of_vc (T := tb0) eqs_ok tb_ok rfl mixed Tryz.func96 rfl rfl rfl ?_; intro Γ C WK LP fin h0 hk0 hW hC hB hR hLP hfin
   (repeat ((conv => whnf); first | (with_reducible refine Fork.mk (fun _ => ?_) (fun hc => ?_)); rotate_left; (exfalso; first | omega | (simp [eqC, cellsI, idv, idl] at hc; done) | (simp [eqC, cellsI, idv, idl] at hc; omega) | contradiction) | (with_reducible refine Fork.mk (fun hc => ?_) (fun _ => ?_)); (exfalso; first | omega | (simp [eqC, cellsI, idv, idl] at hc; done) | (simp [eqC, cellsI, idv, idl] at hc; omega) | contradiction) | (with_reducible refine Owe.mk ?_ ?_); (first | omega | (unfold most; omega) | decide +kernel | assumption | (simp [most]; done) | (simp [most]; omega)) | (with_reducible intro z hz); first | (replace hz := hz (by omega); subst hz) | subst hz)); try (conv => whnf)
   exact hfin _ ((Weak.slots 1 (by first | omega | (rw [h0]; exact Nat.le_of_ble_eq_true rfl)) rfl rfl (by first | rfl | (simp only [List.all_cons, List.all_nil, blkBelow, belowL_imm, belowL, belowB, Bool.and_true, Bool.true_and]; first | done | decide) | simp [blkBelow, belowB, belowL, belowL_imm]) (by repeat (first | exact Wk.nil | refine Wk.drop ?_ | refine Wk.eq (by with_reducible rfl) rfl ?_ | refine Wk.eq (congrArg (fun z => PV.imm (IV.int IntKind.i64 z)) (by first | omega | (simp; done) | (simp; omega))) rfl ?_ | refine Wk.eq rfl rfl ?_))))
 · have hi := trip_ne hid
   rw [decide_eq_false hid]
   refine PCB.of_vc (T := tb0) eqs_ok tb_ok rfl mixed Tryz.func96 rfl rfl rfl ?_; intro Γ C WK LP fin h0 hk0 hW hC hB hR hLP hfin
   (repeat ((conv => whnf); first | (with_reducible refine Fork.mk (fun _ => ?_) (fun hc => ?_)); rotate_left; (exfalso; first | omega | (simp [eqC, cellsI, idv, idl] at hc; done) | (simp [eqC, cellsI, idv, idl] at hc; omega) | contradiction) | (with_reducible refine Fork.mk (fun hc => ?_) (fun _ => ?_)); (exfalso; first | omega | (simp [eqC, cellsI, idv, idl] at hc; done) | (simp [eqC, cellsI, idv, idl] at hc; omega) | contradiction) | (with_reducible refine Owe.mk ?_ ?_); (first | omega | (unfold most; omega) | decide +kernel | assumption | (simp [most]; done) | (simp [most]; omega)) | (with_reducible intro z hz); first | (replace hz := hz (by omega); subst hz) | subst hz)); try (conv => whnf)
   exact hfin _ ((Weak.slots 1 (by first | omega | (rw [h0]; exact Nat.le_of_ble_eq_true rfl)) rfl rfl (by first | rfl | (simp only [List.all_cons, List.all_nil, blkBelow, belowL_imm, belowL, belowB, Bool.and_true, Bool.true_and]; first | done | decide) | simp [blkBelow, belowB, belowL, belowL_imm]) (by repeat (first | exact Wk.nil | refine Wk.drop ?_ | refine Wk.eq (by with_reducible rfl) rfl ?_ | refine Wk.eq (congrArg (fun z => PV.imm (IV.int IntKind.i64 z)) (by first | omega | (simp; done) | (simp; omega))) rfl ?_ | refine Wk.eq rfl rfl ?_))))
def hitP (t : Trip) (x : Ut) : Bool := decide (x.id = t)
theorem index_pcb (t : Trip) (l : List Ut) (hl : l.length ≤ 100000000) : PCB Tryz.prog envU 95 [.imm (.sl 8 (l.map uv)), .clo 96 [.ptr 0 1 0]] ((idB t).map CBk.blk) [.imm (.int .i64 (if l.findIdx (hitP t) < l.length then ((l.findIdx (hitP t) : Nat) : Int) else -1))] ((idB t).map CBk.blk) := by
 have hml : (l.map uv).length = l.length := List.length_map _
 refine PCB.of_vc (T := tb0) eqs_ok tb_ok rfl mixed Tryz.func95 rfl rfl rfl ?_; intro Γ C WK LP fin h0 hk0 hW hC hB hR hLP hfin
 (repeat ((conv => whnf); first | (with_reducible refine Fork.mk (fun _ => ?_) (fun hc => ?_)); rotate_left; (exfalso; first | omega | (simp [eqC, cellsI, idv, idl] at hc; done) | (simp [eqC, cellsI, idv, idl] at hc; omega) | contradiction) | (with_reducible refine Fork.mk (fun hc => ?_) (fun _ => ?_)); (exfalso; first | omega | (simp [eqC, cellsI, idv, idl] at hc; done) | (simp [eqC, cellsI, idv, idl] at hc; omega) | contradiction) | (with_reducible refine Owe.mk ?_ ?_); (first | omega | (unfold most; omega) | decide +kernel | assumption | (simp [most]; done) | (simp [most]; omega)) | (with_reducible intro z hz); first | (replace hz := hz (by omega); subst hz) | subst hz)); try (conv => whnf)
 refine hLP _ _ _ Nat (fun k => ⟨[.imm (.sl 8 (l.map uv)), .clo 96 [.ptr 0 1 0], .any, .any, .any, .any, .any, .imm (.int .i64 l.length), .imm (.int .i64 (k : Nat)), .any, .any, .any, .any, .any, .any, .any, .any, .any, .any], [.box 1 [.imm (.int .i64 t.x), .imm (.int .i64 t.y), .imm (.int .i64 t.z)]]⟩) (fun k => k ≤ l.length ∧ k ≤ l.findIdx (hitP t)) (fun k => l.length - k) 0 ⟨Nat.zero_le _, Nat.zero_le _⟩ (Weak.slots 1 (by first | omega | (rw [h0]; exact Nat.le_of_ble_eq_true rfl)) rfl rfl (by first | rfl | (simp only [List.all_cons, List.all_nil, blkBelow, belowL_imm, belowL, belowB, Bool.and_true, Bool.true_and]; first | done | decide) | simp [blkBelow, belowB, belowL, belowL_imm]) (by repeat (first | exact Wk.nil | refine Wk.drop ?_ | refine Wk.eq (by with_reducible rfl) rfl ?_ | refine Wk.eq (congrArg (fun z => PV.imm (IV.int IntKind.i64 z)) (by first | omega | (simp; done) | (simp; omega))) rfl ?_ | refine Wk.eq rfl rfl ?_))) ?_
 rintro k ⟨hk, hno⟩
 by_cases hlt : k < l.length
 · obtain ⟨x, hx⟩ : ∃ x, l[k]? = some x := ⟨l[k], List.getElem?_eq_getElem hlt⟩
   have hxe : l[k] = x := (List.getElem?_eq_some_iff.1 hx).2
   have hux := uv_eq x
   have hI := isid_pcb t x
   rw [hux] at hI
   (repeat ((conv => whnf); first | (with_reducible refine Fork.mk (fun _ => ?_) (fun hc => ?_)); rotate_left; (exfalso; first | omega | (simp [eqC, cellsI, idv, idl] at hc; done) | (simp [eqC, cellsI, idv, idl] at hc; omega) | contradiction) | (with_reducible refine Fork.mk (fun hc => ?_) (fun _ => ?_)); (exfalso; first | omega | (simp [eqC, cellsI, idv, idl] at hc; done) | (simp [eqC, cellsI, idv, idl] at hc; omega) | contradiction) | (with_reducible refine Owe.mk ?_ ?_); (first | omega | (unfold most; omega) | decide +kernel | assumption | (simp [most]; done) | (simp [most]; omega)) | (with_reducible intro z hz); first | (replace hz := hz (by omega); subst hz) | subst hz)); try (conv => whnf)
   refine Idx.mk k (uv x) _ rfl (by simp [hx]) (by rw [hux]; try rfl) ?_
   (repeat ((conv => whnf); first | (with_reducible refine Fork.mk (fun _ => ?_) (fun hc => ?_)); rotate_left; (exfalso; first | omega | (simp [eqC, cellsI, idv, idl] at hc; done) | (simp [eqC, cellsI, idv, idl] at hc; omega) | contradiction) | (with_reducible refine Fork.mk (fun hc => ?_) (fun _ => ?_)); (exfalso; first | omega | (simp [eqC, cellsI, idv, idl] at hc; done) | (simp [eqC, cellsI, idv, idl] at hc; omega) | contradiction) | (with_reducible refine Owe.mk ?_ ?_); (first | omega | (unfold most; omega) | decide +kernel | assumption | (simp [most]; done) | (simp [most]; omega)) | (with_reducible intro z hz); first | (replace hz := hz (by omega); subst hz) | subst hz)); try (conv => whnf)
   refine CallB.mk ([.imm (.bool (decide (x.id = t)))]) (idB t) (hB _ _ _ _ _ (hI)) ?_
   by_cases hid : x.id = t
   · rw [decide_eq_true hid]
     (repeat ((conv => whnf); first | (with_reducible refine Fork.mk (fun _ => ?_) (fun hc => ?_)); rotate_left; (exfalso; first | omega | (simp [eqC, cellsI, idv, idl] at hc; done) | (simp [eqC, cellsI, idv, idl] at hc; omega) | contradiction) | (with_reducible refine Fork.mk (fun hc => ?_) (fun _ => ?_)); (exfalso; first | omega | (simp [eqC, cellsI, idv, idl] at hc; done) | (simp [eqC, cellsI, idv, idl] at hc; omega) | contradiction) | (with_reducible refine Owe.mk ?_ ?_); (first | omega | (unfold most; omega) | decide +kernel | assumption | (simp [most]; done) | (simp [most]; omega)) | (with_reducible intro z hz); first | (replace hz := hz (by omega); subst hz) | subst hz)); try (conv => whnf)
     have hle : ¬ k < l.findIdx (hitP t) := fun h => by
       have := List.not_of_lt_findIdx h
       rw [hxe] at this
       simp [hitP, hid] at this
     have he : l.findIdx (hitP t) = k := by omega
     refine hfin _ ?_
     rw [he, if_pos hlt]
     exact (Weak.slots 1 (by first | omega | (rw [h0]; exact Nat.le_of_ble_eq_true rfl)) rfl rfl (by first | rfl | (simp only [List.all_cons, List.all_nil, blkBelow, belowL_imm, belowL, belowB, Bool.and_true, Bool.true_and]; first | done | decide) | simp [blkBelow, belowB, belowL, belowL_imm]) (by repeat (first | exact Wk.nil | refine Wk.drop ?_ | refine Wk.eq (by with_reducible rfl) rfl ?_ | refine Wk.eq (congrArg (fun z => PV.imm (IV.int IntKind.i64 z)) (by first | omega | (simp; done) | (simp; omega))) rfl ?_ | refine Wk.eq rfl rfl ?_)))
   · rw [decide_eq_false hid]
     (repeat ((conv => whnf); first | (with_reducible refine Fork.mk (fun _ => ?_) (fun hc => ?_)); rotate_left; (exfalso; first | omega | (simp [eqC, cellsI, idv, idl] at hc; done) | (simp [eqC, cellsI, idv, idl] at hc; omega) | contradiction) | (with_reducible refine Fork.mk (fun hc => ?_) (fun _ => ?_)); (exfalso; first | omega | (simp [eqC, cellsI, idv, idl] at hc; done) | (simp [eqC, cellsI, idv, idl] at hc; omega) | contradiction) | (with_reducible refine Owe.mk ?_ ?_); (first | omega | (unfold most; omega) | decide +kernel | assumption | (simp [most]; done) | (simp [most]; omega)) | (with_reducible intro z hz); first | (replace hz := hz (by omega); subst hz) | subst hz)); try (conv => whnf)
     have hne : l.findIdx (hitP t) ≠ k := fun h => by
       have := List.findIdx_getElem (xs := l) (p := hitP t) (w := by omega)
       simp only [h, hxe] at this
       simp [hitP, hid] at this
     exact ⟨k + 1, ⟨by omega, by omega⟩, by dsimp only; omega, (Weak.slots 1 (by first | omega | (rw [h0]; exact Nat.le_of_ble_eq_true rfl)) rfl rfl (by first | rfl | (simp only [List.all_cons, List.all_nil, blkBelow, belowL_imm, belowL, belowB, Bool.and_true, Bool.true_and]; first | done | decide) | simp [blkBelow, belowB, belowL, belowL_imm]) (by repeat (first | exact Wk.nil | refine Wk.drop ?_ | refine Wk.eq (by with_reducible rfl) rfl ?_ | refine Wk.eq (congrArg (fun z => PV.imm (IV.int IntKind.i64 z)) (by first | omega | (simp; done) | (simp; omega))) rfl ?_ | refine Wk.eq rfl rfl ?_)))⟩
 · (repeat ((conv => whnf); first | (with_reducible refine Fork.mk (fun _ => ?_) (fun hc => ?_)); rotate_left; (exfalso; first | omega | (simp [eqC, cellsI, idv, idl] at hc; done) | (simp [eqC, cellsI, idv, idl] at hc; omega) | contradiction) | (with_reducible refine Fork.mk (fun hc => ?_) (fun _ => ?_)); (exfalso; first | omega | (simp [eqC, cellsI, idv, idl] at hc; done) | (simp [eqC, cellsI, idv, idl] at hc; omega) | contradiction) | (with_reducible refine Owe.mk ?_ ?_); (first | omega | (unfold most; omega) | decide +kernel | assumption | (simp [most]; done) | (simp [most]; omega)) | (with_reducible intro z hz); first | (replace hz := hz (by omega); subst hz) | subst hz)); try (conv => whnf)
   refine hfin _ ?_
   rw [if_neg (by omega)]
   exact (Weak.slots 1 (by first | omega | (rw [h0]; exact Nat.le_of_ble_eq_true rfl)) rfl rfl (by first | rfl | (simp only [List.all_cons, List.all_nil, blkBelow, belowL_imm, belowL, belowB, Bool.and_true, Bool.true_and]; first | done | decide) | simp [blkBelow, belowB, belowL, belowL_imm]) (by repeat (first | exact Wk.nil | refine Wk.drop ?_ | refine Wk.eq (by with_reducible rfl) rfl ?_ | refine Wk.eq (congrArg (fun z => PV.imm (IV.int IntKind.i64 z)) (by first | omega | (simp; done) | (simp; omega))) rfl ?_ | refine Wk.eq rfl rfl ?_)))
end Go.Proofs.YtmnbobcgjnickaaGreatDoor.Pu
namespace Go.Proofs.YtmnbobcgjnickaaGreatDoor.Pu
open Go Go.Pv
set_option linter.unusedSimpArgs false
open Lab Lcs Go.Proofs.YtmnbobcgjnickaaGreatDoor
set_option maxRecDepth 10000
set_option maxHeartbeats 4000000
theorem lin_second (t : Trip) : ∀ (n : Nat) (u : Ut), u.count ≤ n → ∀ x p r, linL t u = x :: p :: r → x ∈ p.kids ∧ p ∈ u.all
 | 0, u, hn, _, _, _, _ => by have := count_pos u; omega
 | n + 1, u, hn, x, p, r, h => by
   by_cases hi : u.id = t
   · rw [lin_self hi] at h; simp at h
   by_cases hk : linK t u.kids = []
   · rw [lin_none hi hk] at h; cases h
   have key : ∀ l : List Ut, linK t l ≠ [] → ∃ y ∈ l, linL t y = linK t l ∧ linL t y ≠ [] := by
     intro l
     induction l with
     | nil => intro h; exact absurd rfl h
     | cons y l ih =>
       intro hne
       rw [linK] at hne ⊢
       by_cases hy : (linL t y).isEmpty = true
       · rw [if_pos hy] at hne ⊢
         obtain ⟨z, hz, q⟩ := ih hne
         exact ⟨z, List.mem_cons_of_mem _ hz, q⟩
       · rw [if_neg hy]
         exact ⟨y, List.mem_cons_self, rfl, by simpa using hy⟩
   obtain ⟨y, hy, h1, h2⟩ := key u.kids hk
   rw [lin_some hi hk, ← h1] at h
   have hyc := kid_count hy
   cases hc : linL t y with
   | nil => exact absurd hc h2
   | cons a s =>
     rw [hc] at h
     cases s with
     | nil =>
       simp only [List.cons_append, List.nil_append, List.cons.injEq] at h
       obtain ⟨rfl, rfl, rfl⟩ := h
       have : y = a := by
         by_cases hyi : y.id = t
         · rw [lin_self hyi] at hc
           simp at hc
           exact hc
         · by_cases hyk : linK t y.kids = []
           · rw [lin_none hyi hyk] at hc; cases hc
           · rw [lin_some hyi hyk] at hc
             have := congrArg List.length hc
             rw [List.length_append] at this
             have h3 : 0 < (linK t y.kids).length := List.length_pos_iff.2 hyk
             simp at this
             exact absurd this hyk
       subst this
       exact ⟨hy, self_all u⟩
     | cons b s =>
       simp only [List.cons_append, List.cons.injEq] at h
       obtain ⟨rfl, rfl, _⟩ := h
       obtain ⟨g1, g2⟩ := lin_second t n y (by omega) a b s hc
       exact ⟨g1, by rw [Ut.all_eq]; exact List.mem_cons_of_mem _ (mem_alls.2 ⟨y, hy, g2⟩)⟩
theorem hit_lt {t : Trip} {l : List Ut} {x : Ut} (hx : x ∈ l) (h : x.id = t) : l.findIdx (hitP t) < l.length := List.findIdx_lt_length_of_exists ⟨x, hx, by simp [hitP, h]⟩
def parV (t : Trip) (u : Ut) : Trip × Int × Bool := parR t (linL t u)
theorem parent_pc (t : Trip) (u : Ut) (hM : u.count ≤ 100000000) : PC Tryz.prog envU 69 [uv u, idv t] [idv (parV t u).1, .int .i64 (parV t u).2.1, .bool (parV t u).2.2] := by
 have hue := uv_eq u
 have hL := lineage_pc t u hM
 have hml : ((linL t u).map uv).length = (linL t u).length := List.length_map _
 unfold parV
 rw [hue] at hL ⊢
 unfold idv idl at *
 cases hc : linL t u with
 | nil =>
   have hl0 : (linL t u).length = 0 := by rw [hc]; rfl
   refine PC.of_vc (T := tb0) eqs_ok tb_ok rfl mixed Tryz.func69 rfl rfl ?_; intro Γ C WK LP fin h0 hW hC hB hR hLP hfin
   (repeat ((conv => whnf); first | (with_reducible refine Fork.mk (fun _ => ?_) (fun hc => ?_)); rotate_left; (exfalso; first | omega | (simp [eqC, cellsI, idv, idl] at hc; done) | (simp [eqC, cellsI, idv, idl] at hc; omega) | contradiction) | (with_reducible refine Fork.mk (fun hc => ?_) (fun _ => ?_)); (exfalso; first | omega | (simp [eqC, cellsI, idv, idl] at hc; done) | (simp [eqC, cellsI, idv, idl] at hc; omega) | contradiction) | (with_reducible refine Owe.mk ?_ ?_); (first | omega | (unfold most; omega) | decide +kernel | assumption | (simp [most]; done) | (simp [most]; omega)) | (with_reducible intro z hz); first | (replace hz := hz (by omega); subst hz) | subst hz)); try (conv => whnf)
   refine CallV.mk _ (hC _ _ _ (PCw.of (hL))) (fun js hjs => ?_); subst hjs
   (repeat ((conv => whnf); first | (with_reducible refine Fork.mk (fun _ => ?_) (fun hc => ?_)); rotate_left; (exfalso; first | omega | (simp [eqC, cellsI, idv, idl] at hc; done) | (simp [eqC, cellsI, idv, idl] at hc; omega) | contradiction) | (with_reducible refine Fork.mk (fun hc => ?_) (fun _ => ?_)); (exfalso; first | omega | (simp [eqC, cellsI, idv, idl] at hc; done) | (simp [eqC, cellsI, idv, idl] at hc; omega) | contradiction) | (with_reducible refine Owe.mk ?_ ?_); (first | omega | (unfold most; omega) | decide +kernel | assumption | (simp [most]; done) | (simp [most]; omega)) | (with_reducible intro z hz); first | (replace hz := hz (by omega); subst hz) | subst hz)); try (conv => whnf)
   exact hfin _ (ILes.refl _)
 | cons x r =>
   cases r with
   | nil =>
     have hl0 : (linL t u).length = 1 := by rw [hc]; rfl
     refine PC.of_vc (T := tb0) eqs_ok tb_ok rfl mixed Tryz.func69 rfl rfl ?_; intro Γ C WK LP fin h0 hW hC hB hR hLP hfin
     (repeat ((conv => whnf); first | (with_reducible refine Fork.mk (fun _ => ?_) (fun hc => ?_)); rotate_left; (exfalso; first | omega | (simp [eqC, cellsI, idv, idl] at hc; done) | (simp [eqC, cellsI, idv, idl] at hc; omega) | contradiction) | (with_reducible refine Fork.mk (fun hc => ?_) (fun _ => ?_)); (exfalso; first | omega | (simp [eqC, cellsI, idv, idl] at hc; done) | (simp [eqC, cellsI, idv, idl] at hc; omega) | contradiction) | (with_reducible refine Owe.mk ?_ ?_); (first | omega | (unfold most; omega) | decide +kernel | assumption | (simp [most]; done) | (simp [most]; omega)) | (with_reducible intro z hz); first | (replace hz := hz (by omega); subst hz) | subst hz)); try (conv => whnf)
     refine CallV.mk _ (hC _ _ _ (PCw.of (hL))) (fun js hjs => ?_); subst hjs
     (repeat ((conv => whnf); first | (with_reducible refine Fork.mk (fun _ => ?_) (fun hc => ?_)); rotate_left; (exfalso; first | omega | (simp [eqC, cellsI, idv, idl] at hc; done) | (simp [eqC, cellsI, idv, idl] at hc; omega) | contradiction) | (with_reducible refine Fork.mk (fun hc => ?_) (fun _ => ?_)); (exfalso; first | omega | (simp [eqC, cellsI, idv, idl] at hc; done) | (simp [eqC, cellsI, idv, idl] at hc; omega) | contradiction) | (with_reducible refine Owe.mk ?_ ?_); (first | omega | (unfold most; omega) | decide +kernel | assumption | (simp [most]; done) | (simp [most]; omega)) | (with_reducible intro z hz); first | (replace hz := hz (by omega); subst hz) | subst hz)); try (conv => whnf)
     exact hfin _ (ILes.refl _)
   | cons p r =>
     have hl0 : (linL t u).length = r.length + 2 := by rw [hc]; rfl
     have hup := uv_eq p
     obtain ⟨hxp, hpa⟩ := lin_second t u.count u (Nat.le_refl _) x p r hc
     have hlt := hit_lt hxp (lin_mem hc).1
     have hpc := all_count hpa
     have hkl := kids_counts p.kids
     have hpe := Ut.count_eq p
     have hX := index_pcb t p.kids (by omega)
     rw [if_pos hlt] at hX
     refine PC.of_vc (T := tb0) eqs_ok tb_ok rfl mixed Tryz.func69 rfl rfl ?_; intro Γ C WK LP fin h0 hW hC hB hR hLP hfin
     (repeat ((conv => whnf); first | (with_reducible refine Fork.mk (fun _ => ?_) (fun hc => ?_)); rotate_left; (exfalso; first | omega | (simp [eqC, cellsI, idv, idl] at hc; done) | (simp [eqC, cellsI, idv, idl] at hc; omega) | contradiction) | (with_reducible refine Fork.mk (fun hc => ?_) (fun _ => ?_)); (exfalso; first | omega | (simp [eqC, cellsI, idv, idl] at hc; done) | (simp [eqC, cellsI, idv, idl] at hc; omega) | contradiction) | (with_reducible refine Owe.mk ?_ ?_); (first | omega | (unfold most; omega) | decide +kernel | assumption | (simp [most]; done) | (simp [most]; omega)) | (with_reducible intro z hz); first | (replace hz := hz (by omega); subst hz) | subst hz)); try (conv => whnf)
     refine CallV.mk _ (hC _ _ _ (PCw.of (hL))) (fun js hjs => ?_); subst hjs
     (repeat ((conv => whnf); first | (with_reducible refine Fork.mk (fun _ => ?_) (fun hc => ?_)); rotate_left; (exfalso; first | omega | (simp [eqC, cellsI, idv, idl] at hc; done) | (simp [eqC, cellsI, idv, idl] at hc; omega) | contradiction) | (with_reducible refine Fork.mk (fun hc => ?_) (fun _ => ?_)); (exfalso; first | omega | (simp [eqC, cellsI, idv, idl] at hc; done) | (simp [eqC, cellsI, idv, idl] at hc; omega) | contradiction) | (with_reducible refine Owe.mk ?_ ?_); (first | omega | (unfold most; omega) | decide +kernel | assumption | (simp [most]; done) | (simp [most]; omega)) | (with_reducible intro z hz); first | (replace hz := hz (by omega); subst hz) | subst hz)); try (conv => whnf)
     refine Idx.mk 1 (uv p) _ rfl (by simp [hc]) (by rw [hup]; try rfl) ?_
     (repeat ((conv => whnf); first | (with_reducible refine Fork.mk (fun _ => ?_) (fun hc => ?_)); rotate_left; (exfalso; first | omega | (simp [eqC, cellsI, idv, idl] at hc; done) | (simp [eqC, cellsI, idv, idl] at hc; omega) | contradiction) | (with_reducible refine Fork.mk (fun hc => ?_) (fun _ => ?_)); (exfalso; first | omega | (simp [eqC, cellsI, idv, idl] at hc; done) | (simp [eqC, cellsI, idv, idl] at hc; omega) | contradiction) | (with_reducible refine Owe.mk ?_ ?_); (first | omega | (unfold most; omega) | decide +kernel | assumption | (simp [most]; done) | (simp [most]; omega)) | (with_reducible intro z hz); first | (replace hz := hz (by omega); subst hz) | subst hz)); try (conv => whnf)
     refine CallB.mk ([.imm (.int .i64 ((p.kids.findIdx (hitP t) : Nat) : Int))]) (idB t) (hB _ _ _ _ _ (hX)) ?_
     (repeat ((conv => whnf); first | (with_reducible refine Fork.mk (fun _ => ?_) (fun hc => ?_)); rotate_left; (exfalso; first | omega | (simp [eqC, cellsI, idv, idl] at hc; done) | (simp [eqC, cellsI, idv, idl] at hc; omega) | contradiction) | (with_reducible refine Fork.mk (fun hc => ?_) (fun _ => ?_)); (exfalso; first | omega | (simp [eqC, cellsI, idv, idl] at hc; done) | (simp [eqC, cellsI, idv, idl] at hc; omega) | contradiction) | (with_reducible refine Owe.mk ?_ ?_); (first | omega | (unfold most; omega) | decide +kernel | assumption | (simp [most]; done) | (simp [most]; omega)) | (with_reducible intro z hz); first | (replace hz := hz (by omega); subst hz) | subst hz)); try (conv => whnf)
     exact hfin _ (ILes.refl _)
end Go.Proofs.YtmnbobcgjnickaaGreatDoor.Pu
namespace Go.Proofs.YtmnbobcgjnickaaGreatDoor.Pu
open Go Go.Pv
set_option linter.unusedSimpArgs false
open Lab Lcs Go.Proofs.YtmnbobcgjnickaaGreatDoor
set_option maxRecDepth 10000
set_option maxHeartbeats 4000000
theorem par_hit {t : Trip} {u x : Ut} {k : Nat} (hid : u.id ≠ t) (hx : u.kids[k]? = some x) (hno : linK t (u.kids.take k) = []) (hxi : x.id = t) : parV t u = (u.id, (k : Int), true) := by
 have hl := lin_self hxi
 have hk := linK_hit hx hno (by rw [hl]; simp)
 unfold parV
 rw [lin_some hid (by rw [hk, hl]; simp), hk, hl]
 show (u.id, ((u.kids.findIdx fun k => decide (k.id = t) : Nat) : Int), true) = _
 rw [findIdx_hit hx hno hxi]
theorem par_in {t : Trip} {u x : Ut} {k : Nat} (hid : u.id ≠ t) (hx : u.kids[k]? = some x) (hno : linK t (u.kids.take k) = []) (hxi : x.id ≠ t) (hf : foundB t x = true) : parV t u = parV t x := by
 have hne : linL t x ≠ [] := fun e => by unfold foundB at hf; rw [e] at hf; cases hf
 have hk := linK_hit hx hno hne
 unfold parV
 rw [lin_some hid (by rw [hk]; exact hne), hk]
 have hkx : linK t x.kids ≠ [] := fun e => hne (lin_none hxi e)
 rw [lin_some hxi hkx]
 cases hc : linK t x.kids with
 | nil => exact absurd hc hkx
 | cons a r =>
   cases r with
   | nil => rfl
   | cons b r => rfl
theorem par_none {t : Trip} {u : Ut} (hid : u.id ≠ t) (hno : linK t u.kids = []) : parV t u = (.zero, -1, false) := by
 unfold parV
 rw [lin_none hid hno]
 rfl
theorem par_self {t : Trip} {u : Ut} (hid : u.id = t) : parV t u = (.zero, -1, false) := by
 unfold parV
 rw [lin_self hid]
 rfl
theorem rparent_pc (t : Trip) (n : Nat) : ∀ (u : Ut), u.count ≤ n → n ≤ 100000000 → PC Tryz.prog envU 26 [uv u, idv t] [idv (parV t u).1, .int .i64 (parV t u).2.1, .bool (parV t u).2.2] := by
 induction n with
 | zero => intro u h; have := count_pos u; omega
 | succ n ih =>
 intro u hn hM
 have hue := uv_eq u
 have hml : (u.kids.map uv).length = u.kids.length := List.length_map _
 have hkl := kids_counts u.kids
 have hcu := Ut.count_eq u
 rw [hue]
 unfold idv idl
 by_cases hid : u.id = t
 · have hi := trip_eq hid
   rw [par_self hid]
   refine PC.of_vc (T := tb0) eqs_ok tb_ok rfl mixed Tryz.func26 rfl rfl ?_; intro Γ C WK LP fin h0 hW hC hB hR hLP hfin
   (repeat ((conv => whnf); first | (with_reducible refine Fork.mk (fun _ => ?_) (fun hc => ?_)); rotate_left; (exfalso; first | omega | (simp [eqC, cellsI, idv, idl] at hc; done) | (simp [eqC, cellsI, idv, idl] at hc; omega) | contradiction) | (with_reducible refine Fork.mk (fun hc => ?_) (fun _ => ?_)); (exfalso; first | omega | (simp [eqC, cellsI, idv, idl] at hc; done) | (simp [eqC, cellsI, idv, idl] at hc; omega) | contradiction) | (with_reducible refine Owe.mk ?_ ?_); (first | omega | (unfold most; omega) | decide +kernel | assumption | (simp [most]; done) | (simp [most]; omega)) | (with_reducible intro z hz); first | (replace hz := hz (by omega); subst hz) | subst hz)); try (conv => whnf)
   exact hfin _ (ILes.refl _)
 have hi := trip_ne hid
 refine PC.of_vc (T := tb0) eqs_ok tb_ok rfl mixed Tryz.func26 rfl rfl ?_; intro Γ C WK LP fin h0 hW hC hB hR hLP hfin
 (repeat ((conv => whnf); first | (with_reducible refine Fork.mk (fun _ => ?_) (fun hc => ?_)); rotate_left; (exfalso; first | omega | (simp [eqC, cellsI, idv, idl] at hc; done) | (simp [eqC, cellsI, idv, idl] at hc; omega) | contradiction) | (with_reducible refine Fork.mk (fun hc => ?_) (fun _ => ?_)); (exfalso; first | omega | (simp [eqC, cellsI, idv, idl] at hc; done) | (simp [eqC, cellsI, idv, idl] at hc; omega) | contradiction) | (with_reducible refine Owe.mk ?_ ?_); (first | omega | (unfold most; omega) | decide +kernel | assumption | (simp [most]; done) | (simp [most]; omega)) | (with_reducible intro z hz); first | (replace hz := hz (by omega); subst hz) | subst hz)); try (conv => whnf)
 refine hLP _ _ _ Nat (fun k => ⟨[.any, .any, .ptr 0 1 0, .ptr 1 1 0, .ptr 2 1 0, .any, .any, .imm (.int .i64 (k : Nat)), .any, .any, .any, .any, .any, .any, .any, .any, .any, .any, .any, .any, .any, .any, .any, .any, .any, .any, .any, .any, .any, .any, .any, .any, .any, .any, .any, .any, .any, .any, .any, .any, .any, .any, .any, .any, .any, .any, .any, .any, .any, .any, .any, .any, .any, .any, .any], [.box 1 [.imm (.int .i64 u.id.x), .imm (.int .i64 u.id.y), .imm (.int .i64 u.id.z), .imm (.int .i64 u.kind), .imm (.str u.label), .imm (.sl 4 (u.head.map wdv)), .imm (.sl 4 (u.words.map wdv)), .imm (.sl 8 (u.kids.map uv))], .box 1 [.imm (.int .i64 t.x), .imm (.int .i64 t.y), .imm (.int .i64 t.z)], .box 1 [.imm (.int .i64 0), .imm (.int .i64 0), .imm (.int .i64 0)]]⟩) (fun k => k ≤ u.kids.length ∧ linK t (u.kids.take k) = []) (fun k => u.kids.length - k) 0 ⟨Nat.zero_le _, rfl⟩ (Weak.slots 3 (by first | omega | (rw [h0]; exact Nat.le_of_ble_eq_true rfl)) rfl rfl (by first | rfl | (simp only [List.all_cons, List.all_nil, blkBelow, belowL_imm, belowL, belowB, Bool.and_true, Bool.true_and]; first | done | decide) | simp [blkBelow, belowB, belowL, belowL_imm]) (by repeat (first | exact Wk.nil | refine Wk.drop ?_ | refine Wk.eq (by with_reducible rfl) rfl ?_ | refine Wk.eq (congrArg (fun z => PV.imm (IV.int IntKind.i64 z)) (by first | omega | (simp; done) | (simp; omega))) rfl ?_ | refine Wk.eq rfl rfl ?_))) ?_
 rintro k ⟨hk, hno⟩
 by_cases hlt : k < u.kids.length
 · obtain ⟨x, hx⟩ := kid_at hlt
   have h1 := kid_lt' hx
   have hux := uv_eq x
   have huf := uv_eq (findU t x)
   (repeat ((conv => whnf); first | (with_reducible refine Fork.mk (fun _ => ?_) (fun hc => ?_)); rotate_left; (exfalso; first | omega | (simp [eqC, cellsI, idv, idl] at hc; done) | (simp [eqC, cellsI, idv, idl] at hc; omega) | contradiction) | (with_reducible refine Fork.mk (fun hc => ?_) (fun _ => ?_)); (exfalso; first | omega | (simp [eqC, cellsI, idv, idl] at hc; done) | (simp [eqC, cellsI, idv, idl] at hc; omega) | contradiction) | (with_reducible refine Owe.mk ?_ ?_); (first | omega | (unfold most; omega) | decide +kernel | assumption | (simp [most]; done) | (simp [most]; omega)) | (with_reducible intro z hz); first | (replace hz := hz (by omega); subst hz) | subst hz)); try (conv => whnf)
   refine Idx.mk k (uv x) _ rfl (by simp [hx]) (by rw [hux]; try rfl) ?_
   by_cases hxi : x.id = t
   · have hi2 := trip_eq hxi
     (repeat ((conv => whnf); first | (with_reducible refine Fork.mk (fun _ => ?_) (fun hc => ?_)); rotate_left; (exfalso; first | omega | (simp [eqC, cellsI, idv, idl] at hc; done) | (simp [eqC, cellsI, idv, idl] at hc; omega) | contradiction) | (with_reducible refine Fork.mk (fun hc => ?_) (fun _ => ?_)); (exfalso; first | omega | (simp [eqC, cellsI, idv, idl] at hc; done) | (simp [eqC, cellsI, idv, idl] at hc; omega) | contradiction) | (with_reducible refine Owe.mk ?_ ?_); (first | omega | (unfold most; omega) | decide +kernel | assumption | (simp [most]; done) | (simp [most]; omega)) | (with_reducible intro z hz); first | (replace hz := hz (by omega); subst hz) | subst hz)); try (conv => whnf)
     refine hfin _ ?_
     rw [par_hit hid hx hno hxi]
     exact ILes.refl _
   have hi2 := trip_ne hxi
   (repeat ((conv => whnf); first | (with_reducible refine Fork.mk (fun _ => ?_) (fun hc => ?_)); rotate_left; (exfalso; first | omega | (simp [eqC, cellsI, idv, idl] at hc; done) | (simp [eqC, cellsI, idv, idl] at hc; omega) | contradiction) | (with_reducible refine Fork.mk (fun hc => ?_) (fun _ => ?_)); (exfalso; first | omega | (simp [eqC, cellsI, idv, idl] at hc; done) | (simp [eqC, cellsI, idv, idl] at hc; omega) | contradiction) | (with_reducible refine Owe.mk ?_ ?_); (first | omega | (unfold most; omega) | decide +kernel | assumption | (simp [most]; done) | (simp [most]; omega)) | (with_reducible intro z hz); first | (replace hz := hz (by omega); subst hz) | subst hz)); try (conv => whnf)
   refine Idx.mk k (uv x) _ rfl (by simp [hx]) (by rw [hux]; try rfl) ?_
   have hF := rfind_pc t x.count x (Nat.le_refl _) (by omega)
   rw [hux, huf] at hF
   unfold idv idl at hF
   (repeat ((conv => whnf); first | (with_reducible refine Fork.mk (fun _ => ?_) (fun hc => ?_)); rotate_left; (exfalso; first | omega | (simp [eqC, cellsI, idv, idl] at hc; done) | (simp [eqC, cellsI, idv, idl] at hc; omega) | contradiction) | (with_reducible refine Fork.mk (fun hc => ?_) (fun _ => ?_)); (exfalso; first | omega | (simp [eqC, cellsI, idv, idl] at hc; done) | (simp [eqC, cellsI, idv, idl] at hc; omega) | contradiction) | (with_reducible refine Owe.mk ?_ ?_); (first | omega | (unfold most; omega) | decide +kernel | assumption | (simp [most]; done) | (simp [most]; omega)) | (with_reducible intro z hz); first | (replace hz := hz (by omega); subst hz) | subst hz)); try (conv => whnf)
   refine CallV.mk _ (hC _ _ _ (PCw.of (hF))) (fun js hjs => ?_); subst hjs
   by_cases hf : foundB t x = true
   · rw [hf]
     have hI := ih x (by omega) (by omega)
     rw [hux] at hI
     unfold idv idl at hI
     (repeat ((conv => whnf); first | (with_reducible refine Fork.mk (fun _ => ?_) (fun hc => ?_)); rotate_left; (exfalso; first | omega | (simp [eqC, cellsI, idv, idl] at hc; done) | (simp [eqC, cellsI, idv, idl] at hc; omega) | contradiction) | (with_reducible refine Fork.mk (fun hc => ?_) (fun _ => ?_)); (exfalso; first | omega | (simp [eqC, cellsI, idv, idl] at hc; done) | (simp [eqC, cellsI, idv, idl] at hc; omega) | contradiction) | (with_reducible refine Owe.mk ?_ ?_); (first | omega | (unfold most; omega) | decide +kernel | assumption | (simp [most]; done) | (simp [most]; omega)) | (with_reducible intro z hz); first | (replace hz := hz (by omega); subst hz) | subst hz)); try (conv => whnf)
     refine Idx.mk k (uv x) _ rfl (by simp [hx]) (by rw [hux]; try rfl) ?_
     (repeat ((conv => whnf); first | (with_reducible refine Fork.mk (fun _ => ?_) (fun hc => ?_)); rotate_left; (exfalso; first | omega | (simp [eqC, cellsI, idv, idl] at hc; done) | (simp [eqC, cellsI, idv, idl] at hc; omega) | contradiction) | (with_reducible refine Fork.mk (fun hc => ?_) (fun _ => ?_)); (exfalso; first | omega | (simp [eqC, cellsI, idv, idl] at hc; done) | (simp [eqC, cellsI, idv, idl] at hc; omega) | contradiction) | (with_reducible refine Owe.mk ?_ ?_); (first | omega | (unfold most; omega) | decide +kernel | assumption | (simp [most]; done) | (simp [most]; omega)) | (with_reducible intro z hz); first | (replace hz := hz (by omega); subst hz) | subst hz)); try (conv => whnf)
     refine CallV.mk _ (hC _ _ _ (PCw.of (hI))) (fun js hjs => ?_); subst hjs
     (repeat ((conv => whnf); first | (with_reducible refine Fork.mk (fun _ => ?_) (fun hc => ?_)); rotate_left; (exfalso; first | omega | (simp [eqC, cellsI, idv, idl] at hc; done) | (simp [eqC, cellsI, idv, idl] at hc; omega) | contradiction) | (with_reducible refine Fork.mk (fun hc => ?_) (fun _ => ?_)); (exfalso; first | omega | (simp [eqC, cellsI, idv, idl] at hc; done) | (simp [eqC, cellsI, idv, idl] at hc; omega) | contradiction) | (with_reducible refine Owe.mk ?_ ?_); (first | omega | (unfold most; omega) | decide +kernel | assumption | (simp [most]; done) | (simp [most]; omega)) | (with_reducible intro z hz); first | (replace hz := hz (by omega); subst hz) | subst hz)); try (conv => whnf)
     refine hfin _ ?_
     rw [par_in hid hx hno hxi hf]
     exact ILes.refl _
   · have hf : foundB t x = false := by simpa using hf
     rw [hf]
     (repeat ((conv => whnf); first | (with_reducible refine Fork.mk (fun _ => ?_) (fun hc => ?_)); rotate_left; (exfalso; first | omega | (simp [eqC, cellsI, idv, idl] at hc; done) | (simp [eqC, cellsI, idv, idl] at hc; omega) | contradiction) | (with_reducible refine Fork.mk (fun hc => ?_) (fun _ => ?_)); (exfalso; first | omega | (simp [eqC, cellsI, idv, idl] at hc; done) | (simp [eqC, cellsI, idv, idl] at hc; omega) | contradiction) | (with_reducible refine Owe.mk ?_ ?_); (first | omega | (unfold most; omega) | decide +kernel | assumption | (simp [most]; done) | (simp [most]; omega)) | (with_reducible intro z hz); first | (replace hz := hz (by omega); subst hz) | subst hz)); try (conv => whnf)
     exact ⟨k + 1, ⟨by omega, linK_step hx hno (found_nil hf)⟩, by dsimp only; omega, (Weak.slots 3 (by first | omega | (rw [h0]; exact Nat.le_of_ble_eq_true rfl)) rfl rfl (by first | rfl | (simp only [List.all_cons, List.all_nil, blkBelow, belowL_imm, belowL, belowB, Bool.and_true, Bool.true_and]; first | done | decide) | simp [blkBelow, belowB, belowL, belowL_imm]) (by repeat (first | exact Wk.nil | refine Wk.drop ?_ | refine Wk.eq (by with_reducible rfl) rfl ?_ | refine Wk.eq (congrArg (fun z => PV.imm (IV.int IntKind.i64 z)) (by first | omega | (simp; done) | (simp; omega))) rfl ?_ | refine Wk.eq rfl rfl ?_)))⟩
 · (repeat ((conv => whnf); first | (with_reducible refine Fork.mk (fun _ => ?_) (fun hc => ?_)); rotate_left; (exfalso; first | omega | (simp [eqC, cellsI, idv, idl] at hc; done) | (simp [eqC, cellsI, idv, idl] at hc; omega) | contradiction) | (with_reducible refine Fork.mk (fun hc => ?_) (fun _ => ?_)); (exfalso; first | omega | (simp [eqC, cellsI, idv, idl] at hc; done) | (simp [eqC, cellsI, idv, idl] at hc; omega) | contradiction) | (with_reducible refine Owe.mk ?_ ?_); (first | omega | (unfold most; omega) | decide +kernel | assumption | (simp [most]; done) | (simp [most]; omega)) | (with_reducible intro z hz); first | (replace hz := hz (by omega); subst hz) | subst hz)); try (conv => whnf)
   obtain rfl : k = u.kids.length := by omega
   rw [List.take_length] at hno
   refine hfin _ ?_
   rw [par_none hid hno]
   exact ILes.refl _
def ancL (t : Trip) (u : Ut) : List Trip := ((linL t u).drop 1).map Ut.id
theorem anc_pc (t : Trip) (u : Ut) (hM : u.count ≤ 100000000) : PC Tryz.prog envU 102 [uv u, idv t] [.sl 3 ((ancL t u).map idv)] := by
 have hue := uv_eq u
 have hL := lineage_pc t u hM
 have hml : ((linL t u).map uv).length = (linL t u).length := List.length_map _
 have hll := lin_len t u
 rw [hue] at hL ⊢
 unfold idv idl at hL ⊢
 refine PC.of_vc (T := tb0) eqs_ok tb_ok rfl mixed Tryz.func102 rfl rfl ?_; intro Γ C WK LP fin h0 hW hC hB hR hLP hfin
 (repeat ((conv => whnf); first | (with_reducible refine Fork.mk (fun _ => ?_) (fun hc => ?_)); rotate_left; (exfalso; first | omega | (simp [eqC, cellsI, idv, idl] at hc; done) | (simp [eqC, cellsI, idv, idl] at hc; omega) | contradiction) | (with_reducible refine Fork.mk (fun hc => ?_) (fun _ => ?_)); (exfalso; first | omega | (simp [eqC, cellsI, idv, idl] at hc; done) | (simp [eqC, cellsI, idv, idl] at hc; omega) | contradiction) | (with_reducible refine Owe.mk ?_ ?_); (first | omega | (unfold most; omega) | decide +kernel | assumption | (simp [most]; done) | (simp [most]; omega)) | (with_reducible intro z hz); first | (replace hz := hz (by omega); subst hz) | subst hz)); try (conv => whnf)
 refine CallV.mk _ (hC _ _ _ (PCw.of (hL))) (fun js hjs => ?_); subst hjs
 (repeat ((conv => whnf); first | (with_reducible refine Fork.mk (fun _ => ?_) (fun hc => ?_)); rotate_left; (exfalso; first | omega | (simp [eqC, cellsI, idv, idl] at hc; done) | (simp [eqC, cellsI, idv, idl] at hc; omega) | contradiction) | (with_reducible refine Fork.mk (fun hc => ?_) (fun _ => ?_)); (exfalso; first | omega | (simp [eqC, cellsI, idv, idl] at hc; done) | (simp [eqC, cellsI, idv, idl] at hc; omega) | contradiction) | (with_reducible refine Owe.mk ?_ ?_); (first | omega | (unfold most; omega) | decide +kernel | assumption | (simp [most]; done) | (simp [most]; omega)) | (with_reducible intro z hz); first | (replace hz := hz (by omega); subst hz) | subst hz)); try (conv => whnf)
 refine hLP _ _ _ Nat (fun k => ⟨[.any, .any, .any, .any, .any, .row 2 1, .any, .any, .any, .any, .imm (.sl 8 ((linL t u).map uv)), .imm (.int .i64 (linL t u).length), .imm (.int .i64 (k : Nat)), .any, .any, .any, .any, .any, .any, .any, .any, .any, .any, .any, .any, .any], [.box 1 [.imm (.int .i64 u.id.x), .imm (.int .i64 u.id.y), .imm (.int .i64 u.id.z), .imm (.int .i64 u.kind), .imm (.str u.label), .imm (.sl 4 (u.head.map wdv)), .imm (.sl 4 (u.words.map wdv)), .imm (.sl 8 (u.kids.map uv))], .box 1 [.imm (.int .i64 t.x), .imm (.int .i64 t.y), .imm (.int .i64 t.z)], .row 23 3 1 (((((linL t u).take k).drop 1).map (idv ∘ Ut.id)).map .imm)]⟩) (fun k => k ≤ (linL t u).length) (fun k => (linL t u).length - k) 0 (Nat.zero_le _) (.trans (Weak.slots (E' := [.any, .any, .any, .any, .any, .imm .nil, .any, .any, .any, .any, .imm (.sl 8 ((linL t u).map uv)), .imm (.int .i64 (linL t u).length), .imm (.int .i64 0), .any, .any, .any, .any, .any, .any, .any, .any, .any, .any, .any, .any, .any]) 2 (by omega) rfl rfl rfl (by repeat (first | exact Wk.nil | refine Wk.drop ?_ | refine Wk.eq (by with_reducible rfl) rfl ?_ | refine Wk.eq (congrArg (fun z => PV.imm (IV.int IntKind.i64 z)) (by first | omega | (simp; done) | (simp; omega))) rfl ?_ | refine Wk.eq rfl rfl ?_))) ((Weak.nilSlot 5 23 3 rfl).trans (Weak.slots 3 (by first | omega | (rw [h0]; exact Nat.le_of_ble_eq_true rfl)) rfl rfl (by first | rfl | (simp only [List.all_cons, List.all_nil, blkBelow, belowL_imm, belowL, belowB, Bool.and_true, Bool.true_and]; first | done | decide) | simp [blkBelow, belowB, belowL, belowL_imm]) (by repeat (first | exact Wk.nil | refine Wk.drop ?_ | refine Wk.eq (by with_reducible rfl) rfl ?_ | refine Wk.eq (congrArg (fun z => PV.imm (IV.int IntKind.i64 z)) (by first | omega | (simp; done) | (simp; omega))) rfl ?_ | refine Wk.eq rfl rfl ?_))))) ?_
 intro k hk
 by_cases hlt : k < (linL t u).length
 · obtain ⟨x, hx⟩ : ∃ x, (linL t u)[k]? = some x := ⟨(linL t u)[k], List.getElem?_eq_getElem hlt⟩
   have hux := uv_eq x
   have hlen : (((((linL t u).take k).drop 1).map (idv ∘ Ut.id)).map PV.imm).length = k - 1 := by simp; omega
   (repeat ((conv => whnf); first | (with_reducible refine Fork.mk (fun _ => ?_) (fun hc => ?_)); rotate_left; (exfalso; first | omega | (simp [eqC, cellsI, idv, idl] at hc; done) | (simp [eqC, cellsI, idv, idl] at hc; omega) | contradiction) | (with_reducible refine Fork.mk (fun hc => ?_) (fun _ => ?_)); (exfalso; first | omega | (simp [eqC, cellsI, idv, idl] at hc; done) | (simp [eqC, cellsI, idv, idl] at hc; omega) | contradiction) | (with_reducible refine Owe.mk ?_ ?_); (first | omega | (unfold most; omega) | decide +kernel | assumption | (simp [most]; done) | (simp [most]; omega)) | (with_reducible intro z hz); first | (replace hz := hz (by omega); subst hz) | subst hz)); try (conv => whnf)
   refine Idx.mk k (uv x) _ rfl (by simp [hx]) (by rw [hux]; try rfl) ?_
   by_cases h0k : k = 0
   · subst h0k
     (repeat ((conv => whnf); first | (with_reducible refine Fork.mk (fun _ => ?_) (fun hc => ?_)); rotate_left; (exfalso; first | omega | (simp [eqC, cellsI, idv, idl] at hc; done) | (simp [eqC, cellsI, idv, idl] at hc; omega) | contradiction) | (with_reducible refine Fork.mk (fun hc => ?_) (fun _ => ?_)); (exfalso; first | omega | (simp [eqC, cellsI, idv, idl] at hc; done) | (simp [eqC, cellsI, idv, idl] at hc; omega) | contradiction) | (with_reducible refine Owe.mk ?_ ?_); (first | omega | (unfold most; omega) | decide +kernel | assumption | (simp [most]; done) | (simp [most]; omega)) | (with_reducible intro z hz); first | (replace hz := hz (by omega); subst hz) | subst hz)); try (conv => whnf)
     exact ⟨0 + 1, by omega, by dsimp only; omega, ((Weak.row 2 (((((linL t u).take (0 + 1)).drop 1).map (idv ∘ Ut.id)).map .imm) rfl (by rw [List.drop_eq_nil_of_le (by simp), List.drop_eq_nil_of_le (by simp; omega)]))).trans (Weak.slots 3 (by first | omega | (rw [h0]; exact Nat.le_of_ble_eq_true rfl)) rfl rfl (by first | rfl | (simp only [List.all_cons, List.all_nil, blkBelow, belowL_imm, belowL, belowB, Bool.and_true, Bool.true_and]; first | done | decide) | simp [blkBelow, belowB, belowL, belowL_imm]) (by repeat (first | exact Wk.nil | refine Wk.drop ?_ | refine Wk.eq (by with_reducible rfl) rfl ?_ | refine Wk.eq (congrArg (fun z => PV.imm (IV.int IntKind.i64 z)) (by first | omega | (simp; done) | (simp; omega))) rfl ?_ | refine Wk.eq rfl rfl ?_)))⟩
   · (repeat ((conv => whnf); first | (with_reducible refine Fork.mk (fun _ => ?_) (fun hc => ?_)); rotate_left; (exfalso; first | omega | (simp [eqC, cellsI, idv, idl] at hc; done) | (simp [eqC, cellsI, idv, idl] at hc; omega) | contradiction) | (with_reducible refine Fork.mk (fun hc => ?_) (fun _ => ?_)); (exfalso; first | omega | (simp [eqC, cellsI, idv, idl] at hc; done) | (simp [eqC, cellsI, idv, idl] at hc; omega) | contradiction) | (with_reducible refine Owe.mk ?_ ?_); (first | omega | (unfold most; omega) | decide +kernel | assumption | (simp [most]; done) | (simp [most]; omega)) | (with_reducible intro z hz); first | (replace hz := hz (by omega); subst hz) | subst hz)); try (conv => whnf)
     refine ⟨k + 1, by omega, by dsimp only; omega, ((Weak.row 2 (((((linL t u).take (k + 1)).drop 1).map (idv ∘ Ut.id)).map .imm) rfl (by rw [take_one hx, List.drop_append_of_le_length (by simp; omega)]; simp [idv, idl]))).trans ((Weak.renew 2 1 rfl (by first | omega | (intro _; rw [hk0 _ _ rfl]; exact Nat.le_of_ble_eq_true rfl)) (by repeat (first | exact trivial | refine And.intro (rgL_imms _ _ _ _) ?_ | refine And.intro rfl ?_))).trans (Weak.slots 3 (by first | omega | (rw [h0]; exact Nat.le_of_ble_eq_true rfl)) rfl rfl (by first | rfl | (simp only [List.all_cons, List.all_nil, blkBelow, belowL_imm, belowL, belowB, Bool.and_true, Bool.true_and]; first | done | decide) | simp [blkBelow, belowB, belowL, belowL_imm]) (by repeat (first | exact Wk.nil | refine Wk.drop ?_ | refine Wk.eq (by with_reducible rfl) rfl ?_ | refine Wk.eq (congrArg (fun z => PV.imm (IV.int IntKind.i64 z)) (by first | omega | (simp; done) | (simp; omega))) rfl ?_ | refine Wk.eq rfl rfl ?_))))⟩
 · (repeat ((conv => whnf); first | (with_reducible refine Fork.mk (fun _ => ?_) (fun hc => ?_)); rotate_left; (exfalso; first | omega | (simp [eqC, cellsI, idv, idl] at hc; done) | (simp [eqC, cellsI, idv, idl] at hc; omega) | contradiction) | (with_reducible refine Fork.mk (fun hc => ?_) (fun _ => ?_)); (exfalso; first | omega | (simp [eqC, cellsI, idv, idl] at hc; done) | (simp [eqC, cellsI, idv, idl] at hc; omega) | contradiction) | (with_reducible refine Owe.mk ?_ ?_); (first | omega | (unfold most; omega) | decide +kernel | assumption | (simp [most]; done) | (simp [most]; omega)) | (with_reducible intro z hz); first | (replace hz := hz (by omega); subst hz) | subst hz)); try (conv => whnf)
   obtain rfl : k = (linL t u).length := by omega
   refine Imms.mk _ rfl ?_
   refine hfin _ ?_
   rw [List.take_length]
   unfold ancL
   rw [List.map_map]
   exact ILes.refl _
end Go.Proofs.YtmnbobcgjnickaaGreatDoor.Pu
namespace Go.Proofs.YtmnbobcgjnickaaGreatDoor.Pu
open Go Go.Pv
set_option linter.unusedSimpArgs false
open Lab Lcs Go.Proofs.YtmnbobcgjnickaaGreatDoor
set_option maxRecDepth 10000
set_option maxHeartbeats 4000000
theorem anc_in {t : Trip} {u x : Ut} {k : Nat} (hid : u.id ≠ t) (hx : u.kids[k]? = some x) (hno : linK t (u.kids.take k) = []) (hf : foundB t x = true) : ancL t u = ancL t x ++ [u.id] := by
 have hne : linL t x ≠ [] := fun e => by unfold foundB at hf; rw [e] at hf; cases hf
 have hk := linK_hit hx hno hne
 unfold ancL
 rw [lin_some hid (by rw [hk]; exact hne), hk]
 cases hc : linL t x with
 | nil => exact absurd hc hne
 | cons a r => simp
theorem anc_none {t : Trip} {u : Ut} (hid : u.id ≠ t) (hno : linK t u.kids = []) : ancL t u = [] := by
 unfold ancL
 rw [lin_none hid hno]
 rfl
theorem anc_self {t : Trip} {u : Ut} (hid : u.id = t) : ancL t u = [] := by
 unfold ancL
 rw [lin_self hid]
 rfl
theorem anc_len (t : Trip) (u : Ut) : (ancL t u).length ≤ u.count := by
 have := lin_len t u
 unfold ancL
 rw [List.length_map, List.length_drop]
 omega
theorem above_pcr (t : Trip) (n : Nat) : ∀ (u : Ut), u.count ≤ n → n ≤ 100000000 → PCR Tryz.prog envU 67 [uv u, idv t] 23 3 ((ancL t u).map idv) := by
 induction n with
 | zero => intro u h; have := count_pos u; omega
 | succ n ih =>
 intro u hn hM
 have hue := uv_eq u
 have hml : (u.kids.map uv).length = u.kids.length := List.length_map _
 have hkl := kids_counts u.kids
 have hcu := Ut.count_eq u
 rw [hue]
 rw [show idv t = .agg [.int .i64 t.x, .int .i64 t.y, .int .i64 t.z] from rfl]
 by_cases hid : u.id = t
 · have hi := trip_eq hid
   rw [anc_self hid]
   refine PCR.of_vc (T := tb0) eqs_ok tb_ok rfl mixed Tryz.func67 rfl rfl ?_; intro Γ C WK LP fin h0 hW hC hB hR hLP hfin
   (repeat ((conv => whnf); first | (with_reducible refine Fork.mk (fun _ => ?_) (fun hc => ?_)); rotate_left; (exfalso; first | omega | (simp [eqC, cellsI, idv, idl] at hc; done) | (simp [eqC, cellsI, idv, idl] at hc; omega) | contradiction) | (with_reducible refine Fork.mk (fun hc => ?_) (fun _ => ?_)); (exfalso; first | omega | (simp [eqC, cellsI, idv, idl] at hc; done) | (simp [eqC, cellsI, idv, idl] at hc; omega) | contradiction) | (with_reducible refine Owe.mk ?_ ?_); (first | omega | (unfold most; omega) | decide +kernel | assumption | (simp [most]; done) | (simp [most]; omega)) | (with_reducible intro z hz); first | (replace hz := hz (by omega); subst hz) | subst hz)); try (conv => whnf)
   exact hfin _ _ _ _ ((Weak.nilSlot 0 23 3 rfl)) rfl
 have hi := trip_ne hid
 refine PCR.of_vc (T := tb0) eqs_ok tb_ok rfl mixed Tryz.func67 rfl rfl ?_; intro Γ C WK LP fin h0 hW hC hB hR hLP hfin
 (repeat ((conv => whnf); first | (with_reducible refine Fork.mk (fun _ => ?_) (fun hc => ?_)); rotate_left; (exfalso; first | omega | (simp [eqC, cellsI, idv, idl] at hc; done) | (simp [eqC, cellsI, idv, idl] at hc; omega) | contradiction) | (with_reducible refine Fork.mk (fun hc => ?_) (fun _ => ?_)); (exfalso; first | omega | (simp [eqC, cellsI, idv, idl] at hc; done) | (simp [eqC, cellsI, idv, idl] at hc; omega) | contradiction) | (with_reducible refine Owe.mk ?_ ?_); (first | omega | (unfold most; omega) | decide +kernel | assumption | (simp [most]; done) | (simp [most]; omega)) | (with_reducible intro z hz); first | (replace hz := hz (by omega); subst hz) | subst hz)); try (conv => whnf)
 refine hLP _ _ _ Nat (fun k => ⟨[.any, .any, .ptr 0 1 0, .ptr 1 1 0, .any, .imm (.int .i64 (k : Nat)), .any, .any, .any, .any, .any, .any, .any, .any, .any, .any, .any, .any, .any, .any, .any, .any, .any, .any, .any, .any, .any, .any, .any, .any, .any, .any, .any, .any, .any, .any, .any, .any, .any, .any, .any], [.box 1 [.imm (.int .i64 u.id.x), .imm (.int .i64 u.id.y), .imm (.int .i64 u.id.z), .imm (.int .i64 u.kind), .imm (.str u.label), .imm (.sl 4 (u.head.map wdv)), .imm (.sl 4 (u.words.map wdv)), .imm (.sl 8 (u.kids.map uv))], .box 1 [.imm (.int .i64 t.x), .imm (.int .i64 t.y), .imm (.int .i64 t.z)]]⟩) (fun k => k ≤ u.kids.length ∧ linK t (u.kids.take k) = []) (fun k => u.kids.length - k) 0 ⟨Nat.zero_le _, rfl⟩ (Weak.slots 2 (by first | omega | (rw [h0]; exact Nat.le_of_ble_eq_true rfl)) rfl rfl (by first | rfl | (simp only [List.all_cons, List.all_nil, blkBelow, belowL_imm, belowL, belowB, Bool.and_true, Bool.true_and]; first | done | decide) | simp [blkBelow, belowB, belowL, belowL_imm]) (by repeat (first | exact Wk.nil | refine Wk.drop ?_ | refine Wk.eq (by with_reducible rfl) rfl ?_ | refine Wk.eq (congrArg (fun z => PV.imm (IV.int IntKind.i64 z)) (by first | omega | (simp; done) | (simp; omega))) rfl ?_ | refine Wk.eq rfl rfl ?_))) ?_
 rintro k ⟨hk, hno⟩
 by_cases hlt : k < u.kids.length
 · obtain ⟨x, hx⟩ := kid_at hlt
   have h1 := kid_lt' hx
   have hux := uv_eq x
   have huf := uv_eq (findU t x)
   have hF := rfind_pc t x.count x (Nat.le_refl _) (by omega)
   rw [hux, huf] at hF
   rw [show idv t = .agg [.int .i64 t.x, .int .i64 t.y, .int .i64 t.z] from rfl] at hF
   (repeat ((conv => whnf); first | (with_reducible refine Fork.mk (fun _ => ?_) (fun hc => ?_)); rotate_left; (exfalso; first | omega | (simp [eqC, cellsI, idv, idl] at hc; done) | (simp [eqC, cellsI, idv, idl] at hc; omega) | contradiction) | (with_reducible refine Fork.mk (fun hc => ?_) (fun _ => ?_)); (exfalso; first | omega | (simp [eqC, cellsI, idv, idl] at hc; done) | (simp [eqC, cellsI, idv, idl] at hc; omega) | contradiction) | (with_reducible refine Owe.mk ?_ ?_); (first | omega | (unfold most; omega) | decide +kernel | assumption | (simp [most]; done) | (simp [most]; omega)) | (with_reducible intro z hz); first | (replace hz := hz (by omega); subst hz) | subst hz)); try (conv => whnf)
   refine Idx.mk k (uv x) _ rfl (by simp [hx]) (by rw [hux]; try rfl) ?_
   (repeat ((conv => whnf); first | (with_reducible refine Fork.mk (fun _ => ?_) (fun hc => ?_)); rotate_left; (exfalso; first | omega | (simp [eqC, cellsI, idv, idl] at hc; done) | (simp [eqC, cellsI, idv, idl] at hc; omega) | contradiction) | (with_reducible refine Fork.mk (fun hc => ?_) (fun _ => ?_)); (exfalso; first | omega | (simp [eqC, cellsI, idv, idl] at hc; done) | (simp [eqC, cellsI, idv, idl] at hc; omega) | contradiction) | (with_reducible refine Owe.mk ?_ ?_); (first | omega | (unfold most; omega) | decide +kernel | assumption | (simp [most]; done) | (simp [most]; omega)) | (with_reducible intro z hz); first | (replace hz := hz (by omega); subst hz) | subst hz)); try (conv => whnf)
   refine CallV.mk _ (hC _ _ _ (PCw.of (hF))) (fun js hjs => ?_); subst hjs
   by_cases hf : foundB t x = true
   · rw [hf]
     have hI := ih x (by omega) (by omega)
     rw [hux] at hI
     rw [show idv t = .agg [.int .i64 t.x, .int .i64 t.y, .int .i64 t.z] from rfl] at hI
     have hal := anc_len t x
     have hL : (((ancL t x).map idv).map PV.imm).length = (ancL t x).length := by simp
     (repeat ((conv => whnf); first | (with_reducible refine Fork.mk (fun _ => ?_) (fun hc => ?_)); rotate_left; (exfalso; first | omega | (simp [eqC, cellsI, idv, idl] at hc; done) | (simp [eqC, cellsI, idv, idl] at hc; omega) | contradiction) | (with_reducible refine Fork.mk (fun hc => ?_) (fun _ => ?_)); (exfalso; first | omega | (simp [eqC, cellsI, idv, idl] at hc; done) | (simp [eqC, cellsI, idv, idl] at hc; omega) | contradiction) | (with_reducible refine Owe.mk ?_ ?_); (first | omega | (unfold most; omega) | decide +kernel | assumption | (simp [most]; done) | (simp [most]; omega)) | (with_reducible intro z hz); first | (replace hz := hz (by omega); subst hz) | subst hz)); try (conv => whnf)
     refine Idx.mk k (uv x) _ rfl (by simp [hx]) (by rw [hux]; try rfl) ?_
     (repeat ((conv => whnf); first | (with_reducible refine Fork.mk (fun _ => ?_) (fun hc => ?_)); rotate_left; (exfalso; first | omega | (simp [eqC, cellsI, idv, idl] at hc; done) | (simp [eqC, cellsI, idv, idl] at hc; omega) | contradiction) | (with_reducible refine Fork.mk (fun hc => ?_) (fun _ => ?_)); (exfalso; first | omega | (simp [eqC, cellsI, idv, idl] at hc; done) | (simp [eqC, cellsI, idv, idl] at hc; omega) | contradiction) | (with_reducible refine Owe.mk ?_ ?_); (first | omega | (unfold most; omega) | decide +kernel | assumption | (simp [most]; done) | (simp [most]; omega)) | (with_reducible intro z hz); first | (replace hz := hz (by omega); subst hz) | subst hz)); try (conv => whnf)
     refine CallV.row _ _ _ (hR _ _ _ _ _ (PCRw.of (hI))) (fun js hjs => ?_); subst hjs
     (repeat ((conv => whnf); first | (with_reducible refine Fork.mk (fun _ => ?_) (fun hc => ?_)); rotate_left; (exfalso; first | omega | (simp [eqC, cellsI, idv, idl] at hc; done) | (simp [eqC, cellsI, idv, idl] at hc; omega) | contradiction) | (with_reducible refine Fork.mk (fun hc => ?_) (fun _ => ?_)); (exfalso; first | omega | (simp [eqC, cellsI, idv, idl] at hc; done) | (simp [eqC, cellsI, idv, idl] at hc; omega) | contradiction) | (with_reducible refine Owe.mk ?_ ?_); (first | omega | (unfold most; omega) | decide +kernel | assumption | (simp [most]; done) | (simp [most]; omega)) | (with_reducible intro z hz); first | (replace hz := hz (by omega); subst hz) | subst hz)); try (conv => whnf)
     exact hfin _ _ _ _ ((Weak.row 4 (((ancL t u).map idv).map .imm) rfl (by rw [anc_in hid hx hno hf, List.map_append, List.map_append]; rfl))) rfl
   · have hf : foundB t x = false := by simpa using hf
     rw [hf]
     (repeat ((conv => whnf); first | (with_reducible refine Fork.mk (fun _ => ?_) (fun hc => ?_)); rotate_left; (exfalso; first | omega | (simp [eqC, cellsI, idv, idl] at hc; done) | (simp [eqC, cellsI, idv, idl] at hc; omega) | contradiction) | (with_reducible refine Fork.mk (fun hc => ?_) (fun _ => ?_)); (exfalso; first | omega | (simp [eqC, cellsI, idv, idl] at hc; done) | (simp [eqC, cellsI, idv, idl] at hc; omega) | contradiction) | (with_reducible refine Owe.mk ?_ ?_); (first | omega | (unfold most; omega) | decide +kernel | assumption | (simp [most]; done) | (simp [most]; omega)) | (with_reducible intro z hz); first | (replace hz := hz (by omega); subst hz) | subst hz)); try (conv => whnf)
     exact ⟨k + 1, ⟨by omega, linK_step hx hno (found_nil hf)⟩, by dsimp only; omega, (Weak.slots 2 (by first | omega | (rw [h0]; exact Nat.le_of_ble_eq_true rfl)) rfl rfl (by first | rfl | (simp only [List.all_cons, List.all_nil, blkBelow, belowL_imm, belowL, belowB, Bool.and_true, Bool.true_and]; first | done | decide) | simp [blkBelow, belowB, belowL, belowL_imm]) (by repeat (first | exact Wk.nil | refine Wk.drop ?_ | refine Wk.eq (by with_reducible rfl) rfl ?_ | refine Wk.eq (congrArg (fun z => PV.imm (IV.int IntKind.i64 z)) (by first | omega | (simp; done) | (simp; omega))) rfl ?_ | refine Wk.eq rfl rfl ?_)))⟩
 · (repeat ((conv => whnf); first | (with_reducible refine Fork.mk (fun _ => ?_) (fun hc => ?_)); rotate_left; (exfalso; first | omega | (simp [eqC, cellsI, idv, idl] at hc; done) | (simp [eqC, cellsI, idv, idl] at hc; omega) | contradiction) | (with_reducible refine Fork.mk (fun hc => ?_) (fun _ => ?_)); (exfalso; first | omega | (simp [eqC, cellsI, idv, idl] at hc; done) | (simp [eqC, cellsI, idv, idl] at hc; omega) | contradiction) | (with_reducible refine Owe.mk ?_ ?_); (first | omega | (unfold most; omega) | decide +kernel | assumption | (simp [most]; done) | (simp [most]; omega)) | (with_reducible intro z hz); first | (replace hz := hz (by omega); subst hz) | subst hz)); try (conv => whnf)
   obtain rfl : k = u.kids.length := by omega
   rw [List.take_length] at hno
   rw [anc_none hid hno] at hfin
   exact hfin _ _ _ _ ((Weak.nilSlot 0 23 3 rfl)) rfl
def idsL (l : List Ut) : List Trip := (Ut.alls l).map Ut.id
theorem ids_eq (u : Ut) : u.ids = u.id :: idsL u.kids := by
 unfold Ut.ids idsL
 rw [Ut.all_eq]
 rfl
theorem idsL_take {l : List Ut} {k : Nat} {x : Ut} (hx : l[k]? = some x) : idsL (l.take (k + 1)) = idsL (l.take k) ++ x.ids := by
 unfold idsL Ut.ids
 rw [alls_take hx, List.map_append]
theorem idsL_len (l : List Ut) : (idsL l).length = Ut.counts l := by
 unfold idsL
 rw [List.length_map, alls_length]
theorem uids_len (u : Ut) : u.ids.length = u.count := by
 unfold Ut.ids
 rw [List.length_map, all_length]
theorem all_pcr (n : Nat) : ∀ (u : Ut), u.count ≤ n → n ≤ 100000000 → PCR Tryz.prog envU 24 [uv u] 23 3 (u.ids.map idv) := by
 induction n with
 | zero => intro u h; have := count_pos u; omega
 | succ n ih =>
 intro u hn hM
 have hue := uv_eq u
 have hml : (u.kids.map uv).length = u.kids.length := List.length_map _
 have hkl := kids_counts u.kids
 have hcu := Ut.count_eq u
 rw [hue]
 refine PCR.of_vc (T := tb0) eqs_ok tb_ok rfl mixed Tryz.func24 rfl rfl ?_; intro Γ C WK LP fin h0 hW hC hB hR hLP hfin
 (repeat ((conv => whnf); first | (with_reducible refine Fork.mk (fun _ => ?_) (fun hc => ?_)); rotate_left; (exfalso; first | omega | (simp [eqC, cellsI, idv, idl] at hc; done) | (simp [eqC, cellsI, idv, idl] at hc; omega) | contradiction) | (with_reducible refine Fork.mk (fun hc => ?_) (fun _ => ?_)); (exfalso; first | omega | (simp [eqC, cellsI, idv, idl] at hc; done) | (simp [eqC, cellsI, idv, idl] at hc; omega) | contradiction) | (with_reducible refine Owe.mk ?_ ?_); (first | omega | (unfold most; omega) | decide +kernel | assumption | (simp [most]; done) | (simp [most]; omega)) | (with_reducible intro z hz); first | (replace hz := hz (by omega); subst hz) | subst hz)); try (conv => whnf)
 refine hLP _ _ _ Nat (fun k => ⟨[.any, .ptr 0 1 0, .any, .row 1 1, .imm (.int .i64 (k : Nat)), .any, .any, .any, .any, .any, .any, .any, .any, .any, .any, .any, .any, .any, .any, .any, .any, .any, .any, .any], [.box 1 [.imm (.int .i64 u.id.x), .imm (.int .i64 u.id.y), .imm (.int .i64 u.id.z), .imm (.int .i64 u.kind), .imm (.str u.label), .imm (.sl 4 (u.head.map wdv)), .imm (.sl 4 (u.words.map wdv)), .imm (.sl 8 (u.kids.map uv))], .row 23 3 1 (((u.id :: idsL (u.kids.take k)).map idv).map .imm)]⟩) (fun k => k ≤ u.kids.length) (fun k => u.kids.length - k) 0 (Nat.zero_le _) (Weak.slots 2 (by first | omega | (rw [h0]; exact Nat.le_of_ble_eq_true rfl)) rfl rfl (by first | rfl | (simp only [List.all_cons, List.all_nil, blkBelow, belowL_imm, belowL, belowB, Bool.and_true, Bool.true_and]; first | done | decide) | simp [blkBelow, belowB, belowL, belowL_imm]) (by repeat (first | exact Wk.nil | refine Wk.drop ?_ | refine Wk.eq (by with_reducible rfl) rfl ?_ | refine Wk.eq (congrArg (fun z => PV.imm (IV.int IntKind.i64 z)) (by first | omega | (simp; done) | (simp; omega))) rfl ?_ | refine Wk.eq rfl rfl ?_))) ?_
 intro k hk
 by_cases hlt : k < u.kids.length
 · obtain ⟨x, hx⟩ := kid_at hlt
   have h1 := kid_lt' hx
   have hux := uv_eq x
   have hI := (ih x (by omega) (by omega)).pc
   rw [hux] at hI
   have hL : (((u.id :: idsL (u.kids.take k)).map idv).map PV.imm).length = 1 + Ut.counts (u.kids.take k) := by rw [List.length_map, List.length_map, List.length_cons, idsL_len]; omega
   have hL2 : (x.ids.map idv).length = x.count := by rw [List.length_map, uids_len]
   (repeat ((conv => whnf); first | (with_reducible refine Fork.mk (fun _ => ?_) (fun hc => ?_)); rotate_left; (exfalso; first | omega | (simp [eqC, cellsI, idv, idl] at hc; done) | (simp [eqC, cellsI, idv, idl] at hc; omega) | contradiction) | (with_reducible refine Fork.mk (fun hc => ?_) (fun _ => ?_)); (exfalso; first | omega | (simp [eqC, cellsI, idv, idl] at hc; done) | (simp [eqC, cellsI, idv, idl] at hc; omega) | contradiction) | (with_reducible refine Owe.mk ?_ ?_); (first | omega | (unfold most; omega) | decide +kernel | assumption | (simp [most]; done) | (simp [most]; omega)) | (with_reducible intro z hz); first | (replace hz := hz (by omega); subst hz) | subst hz)); try (conv => whnf)
   refine Idx.mk k (uv x) _ rfl (by simp [hx]) (by rw [hux]; try rfl) ?_
   (repeat ((conv => whnf); first | (with_reducible refine Fork.mk (fun _ => ?_) (fun hc => ?_)); rotate_left; (exfalso; first | omega | (simp [eqC, cellsI, idv, idl] at hc; done) | (simp [eqC, cellsI, idv, idl] at hc; omega) | contradiction) | (with_reducible refine Fork.mk (fun hc => ?_) (fun _ => ?_)); (exfalso; first | omega | (simp [eqC, cellsI, idv, idl] at hc; done) | (simp [eqC, cellsI, idv, idl] at hc; omega) | contradiction) | (with_reducible refine Owe.mk ?_ ?_); (first | omega | (unfold most; omega) | decide +kernel | assumption | (simp [most]; done) | (simp [most]; omega)) | (with_reducible intro z hz); first | (replace hz := hz (by omega); subst hz) | subst hz)); try (conv => whnf)
   refine CallV.mk _ (hC _ _ _ (PCw.of (hI))) (fun js hjs => ?_); subst hjs
   (repeat ((conv => whnf); first | (with_reducible refine Fork.mk (fun _ => ?_) (fun hc => ?_)); rotate_left; (exfalso; first | omega | (simp [eqC, cellsI, idv, idl] at hc; done) | (simp [eqC, cellsI, idv, idl] at hc; omega) | contradiction) | (with_reducible refine Fork.mk (fun hc => ?_) (fun _ => ?_)); (exfalso; first | omega | (simp [eqC, cellsI, idv, idl] at hc; done) | (simp [eqC, cellsI, idv, idl] at hc; omega) | contradiction) | (with_reducible refine Owe.mk ?_ ?_); (first | omega | (unfold most; omega) | decide +kernel | assumption | (simp [most]; done) | (simp [most]; omega)) | (with_reducible intro z hz); first | (replace hz := hz (by omega); subst hz) | subst hz)); try (conv => whnf)
   exact ⟨k + 1, by omega, by dsimp only; omega, ((Weak.row 1 (((u.id :: idsL (u.kids.take (k + 1))).map idv).map .imm) rfl (by rw [idsL_take hx]; simp))).trans ((Weak.renew 1 1 rfl (by first | omega | (intro _; rw [hk0 _ _ rfl]; exact Nat.le_of_ble_eq_true rfl)) (by repeat (first | exact trivial | refine And.intro (rgL_imms _ _ _ _) ?_ | refine And.intro rfl ?_))).trans (Weak.slots 2 (by first | omega | (rw [h0]; exact Nat.le_of_ble_eq_true rfl)) rfl rfl (by first | rfl | (simp only [List.all_cons, List.all_nil, blkBelow, belowL_imm, belowL, belowB, Bool.and_true, Bool.true_and]; first | done | decide) | simp [blkBelow, belowB, belowL, belowL_imm]) (by repeat (first | exact Wk.nil | refine Wk.drop ?_ | refine Wk.eq (by with_reducible rfl) rfl ?_ | refine Wk.eq (congrArg (fun z => PV.imm (IV.int IntKind.i64 z)) (by first | omega | (simp; done) | (simp; omega))) rfl ?_ | refine Wk.eq rfl rfl ?_))))⟩
 · (repeat ((conv => whnf); first | (with_reducible refine Fork.mk (fun _ => ?_) (fun hc => ?_)); rotate_left; (exfalso; first | omega | (simp [eqC, cellsI, idv, idl] at hc; done) | (simp [eqC, cellsI, idv, idl] at hc; omega) | contradiction) | (with_reducible refine Fork.mk (fun hc => ?_) (fun _ => ?_)); (exfalso; first | omega | (simp [eqC, cellsI, idv, idl] at hc; done) | (simp [eqC, cellsI, idv, idl] at hc; omega) | contradiction) | (with_reducible refine Owe.mk ?_ ?_); (first | omega | (unfold most; omega) | decide +kernel | assumption | (simp [most]; done) | (simp [most]; omega)) | (with_reducible intro z hz); first | (replace hz := hz (by omega); subst hz) | subst hz)); try (conv => whnf)
   obtain rfl : k = u.kids.length := by omega
   exact hfin _ _ _ _ ((Weak.row 1 ((u.ids.map idv).map .imm) rfl (by rw [List.take_length, ids_eq]))) rfl
theorem add_pcb (L : List Trip) (u : Ut) (hl : L.length ≤ 100000000) : PCB Tryz.prog envU 87 [.imm (uv u), .ptr 0 1 0] [.box 1 [.row 1 1], .row 23 3 1 ((List.map idv L).map .imm)] [.imm (.bool true)] [.box 1 [.row 1 2], .row 23 3 2 ((List.map idv (L ++ [u.id])).map .imm)] := by
 have hL : ((L.map idv).map PV.imm).length = L.length := by simp
 rw [uv_eq]
 refine PCB.of_vc (T := tb0) eqs_ok tb_ok rfl mixed Tryz.func87 rfl rfl rfl ?_; intro Γ C WK LP fin h0 hk0 hW hC hB hR hLP hfin
 (repeat ((conv => whnf); first | (with_reducible refine Fork.mk (fun _ => ?_) (fun hc => ?_)); rotate_left; (exfalso; first | omega | (simp [eqC, cellsI, idv, idl] at hc; done) | (simp [eqC, cellsI, idv, idl] at hc; omega) | contradiction) | (with_reducible refine Fork.mk (fun hc => ?_) (fun _ => ?_)); (exfalso; first | omega | (simp [eqC, cellsI, idv, idl] at hc; done) | (simp [eqC, cellsI, idv, idl] at hc; omega) | contradiction) | (with_reducible refine Owe.mk ?_ ?_); (first | omega | (unfold most; omega) | decide +kernel | assumption | (simp [most]; done) | (simp [most]; omega)) | (with_reducible intro z hz); first | (replace hz := hz (by omega); subst hz) | subst hz)); try (conv => whnf)
 exact hfin _ (((Weak.row 1 (((L ++ [u.id]).map idv).map .imm) rfl (by rw [List.map_append, List.map_append]; rfl))).trans (Weak.slots 2 (by first | omega | (rw [h0]; exact Nat.le_of_ble_eq_true rfl)) rfl rfl (by first | rfl | (simp only [List.all_cons, List.all_nil, blkBelow, belowL_imm, belowL, belowB, Bool.and_true, Bool.true_and]; first | done | decide) | simp [blkBelow, belowB, belowL, belowL_imm]) (by repeat (first | exact Wk.nil | refine Wk.drop ?_ | refine Wk.eq (by with_reducible rfl) rfl ?_ | refine Wk.eq (congrArg (fun z => PV.imm (IV.int IntKind.i64 z)) (by first | omega | (simp; done) | (simp; omega))) rfl ?_ | refine Wk.eq rfl rfl ?_))))
theorem every_pcb (n : Nat) : ∀ (u : Ut) (L : List Trip), u.count ≤ n → L.length + u.count ≤ 100000000 → PCB Tryz.prog envU 86 [.imm (uv u), .clo 87 [.ptr 0 1 0]] [.box 1 [.row 1 1], .row 23 3 1 ((List.map idv L).map .imm)] [.imm (.bool true)] [.box 1 [.row 1 2], .row 23 3 2 ((List.map idv (L ++ u.ids)).map .imm)] := by
 induction n with
 | zero => intro u L h; have := count_pos u; omega
 | succ n ih =>
 intro u L hn hM
 have hue := uv_eq u
 have hcu := Ut.count_eq u
 have hI := add_pcb L u (by omega)
 rw [hue] at hI ⊢
 refine PCB.of_vc (T := tb0) eqs_ok tb_ok rfl mixed Tryz.func86 rfl rfl rfl ?_; intro Γ C WK LP fin h0 hk0 hW hC hB hR hLP hfin
 (repeat ((conv => whnf); first | (with_reducible refine Fork.mk (fun _ => ?_) (fun hc => ?_)); rotate_left; (exfalso; first | omega | (simp [eqC, cellsI, idv, idl] at hc; done) | (simp [eqC, cellsI, idv, idl] at hc; omega) | contradiction) | (with_reducible refine Fork.mk (fun hc => ?_) (fun _ => ?_)); (exfalso; first | omega | (simp [eqC, cellsI, idv, idl] at hc; done) | (simp [eqC, cellsI, idv, idl] at hc; omega) | contradiction) | (with_reducible refine Owe.mk ?_ ?_); (first | omega | (unfold most; omega) | decide +kernel | assumption | (simp [most]; done) | (simp [most]; omega)) | (with_reducible intro z hz); first | (replace hz := hz (by omega); subst hz) | subst hz)); try (conv => whnf)
 refine Imms.mk _ rfl ?_
 (repeat ((conv => whnf); first | (with_reducible refine Fork.mk (fun _ => ?_) (fun hc => ?_)); rotate_left; (exfalso; first | omega | (simp [eqC, cellsI, idv, idl] at hc; done) | (simp [eqC, cellsI, idv, idl] at hc; omega) | contradiction) | (with_reducible refine Fork.mk (fun hc => ?_) (fun _ => ?_)); (exfalso; first | omega | (simp [eqC, cellsI, idv, idl] at hc; done) | (simp [eqC, cellsI, idv, idl] at hc; omega) | contradiction) | (with_reducible refine Owe.mk ?_ ?_); (first | omega | (unfold most; omega) | decide +kernel | assumption | (simp [most]; done) | (simp [most]; omega)) | (with_reducible intro z hz); first | (replace hz := hz (by omega); subst hz) | subst hz)); try (conv => whnf)
 refine CallB.mk ([.imm (.bool true)]) ([.box 1 [.row 1 2], .row 23 3 2 (List.map idv (L ++ [u.id]))]) (hB _ _ _ _ _ (hI)) ?_
 (repeat ((conv => whnf); first | (with_reducible refine Fork.mk (fun _ => ?_) (fun hc => ?_)); rotate_left; (exfalso; first | omega | (simp [eqC, cellsI, idv, idl] at hc; done) | (simp [eqC, cellsI, idv, idl] at hc; omega) | contradiction) | (with_reducible refine Fork.mk (fun hc => ?_) (fun _ => ?_)); (exfalso; first | omega | (simp [eqC, cellsI, idv, idl] at hc; done) | (simp [eqC, cellsI, idv, idl] at hc; omega) | contradiction) | (with_reducible refine Owe.mk ?_ ?_); (first | omega | (unfold most; omega) | decide +kernel | assumption | (simp [most]; done) | (simp [most]; omega)) | (with_reducible intro z hz); first | (replace hz := hz (by omega); subst hz) | subst hz)); try (conv => whnf)
 refine hLP _ _ _ Nat (fun k => ⟨[.any, .clo 87 [.ptr 0 1 0], .any, .any, .any, .any, .any, .any, .any, .any, .any, .any, .imm (.sl 8 (u.kids.map uv)), .imm (.int .i64 u.kids.length), .imm (.int .i64 (k : Nat)), .any, .any, .any, .any, .any, .any, .any, .any], [.box 1 [.row 1 2], .row 23 3 2 ((List.map idv (L ++ [u.id] ++ idsL (u.kids.take k))).map .imm)]⟩) (fun k => k ≤ u.kids.length) (fun k => u.kids.length - k) 0 (Nat.zero_le _) (((Weak.row 1 (((L ++ [u.id] ++ idsL (u.kids.take 0)).map idv).map .imm) rfl (by simp [idsL, Ut.alls]))).trans (Weak.slots 2 (by first | omega | (rw [h0]; exact Nat.le_of_ble_eq_true rfl)) rfl rfl (by first | rfl | (simp only [List.all_cons, List.all_nil, blkBelow, belowL_imm, belowL, belowB, Bool.and_true, Bool.true_and]; first | done | decide) | simp [blkBelow, belowB, belowL, belowL_imm]) (by repeat (first | exact Wk.nil | refine Wk.drop ?_ | refine Wk.eq (by with_reducible rfl) rfl ?_ | refine Wk.eq (congrArg (fun z => PV.imm (IV.int IntKind.i64 z)) (by first | omega | (simp; done) | (simp; omega))) rfl ?_ | refine Wk.eq rfl rfl ?_)))) ?_
 intro k hk
 by_cases hlt : k < u.kids.length
 · obtain ⟨x, hx⟩ := kid_at hlt
   have h1 := kid_lt' hx
   have hux := uv_eq x
   have hlk := idsL_len (u.kids.take k)
   have hI2 := ih x (L ++ [u.id] ++ idsL (u.kids.take k)) (by omega) (by simp; omega)
   rw [hux] at hI2
   (repeat ((conv => whnf); first | (with_reducible refine Fork.mk (fun _ => ?_) (fun hc => ?_)); rotate_left; (exfalso; first | omega | (simp [eqC, cellsI, idv, idl] at hc; done) | (simp [eqC, cellsI, idv, idl] at hc; omega) | contradiction) | (with_reducible refine Fork.mk (fun hc => ?_) (fun _ => ?_)); (exfalso; first | omega | (simp [eqC, cellsI, idv, idl] at hc; done) | (simp [eqC, cellsI, idv, idl] at hc; omega) | contradiction) | (with_reducible refine Owe.mk ?_ ?_); (first | omega | (unfold most; omega) | decide +kernel | assumption | (simp [most]; done) | (simp [most]; omega)) | (with_reducible intro z hz); first | (replace hz := hz (by omega); subst hz) | subst hz)); try (conv => whnf)
   refine Idx.mk k (uv x) _ rfl (by simp [hx]) (by rw [hux]; try rfl) ?_
   (repeat ((conv => whnf); first | (with_reducible refine Fork.mk (fun _ => ?_) (fun hc => ?_)); rotate_left; (exfalso; first | omega | (simp [eqC, cellsI, idv, idl] at hc; done) | (simp [eqC, cellsI, idv, idl] at hc; omega) | contradiction) | (with_reducible refine Fork.mk (fun hc => ?_) (fun _ => ?_)); (exfalso; first | omega | (simp [eqC, cellsI, idv, idl] at hc; done) | (simp [eqC, cellsI, idv, idl] at hc; omega) | contradiction) | (with_reducible refine Owe.mk ?_ ?_); (first | omega | (unfold most; omega) | decide +kernel | assumption | (simp [most]; done) | (simp [most]; omega)) | (with_reducible intro z hz); first | (replace hz := hz (by omega); subst hz) | subst hz)); try (conv => whnf)
   refine Imms.mk _ rfl ?_
   (repeat ((conv => whnf); first | (with_reducible refine Fork.mk (fun _ => ?_) (fun hc => ?_)); rotate_left; (exfalso; first | omega | (simp [eqC, cellsI, idv, idl] at hc; done) | (simp [eqC, cellsI, idv, idl] at hc; omega) | contradiction) | (with_reducible refine Fork.mk (fun hc => ?_) (fun _ => ?_)); (exfalso; first | omega | (simp [eqC, cellsI, idv, idl] at hc; done) | (simp [eqC, cellsI, idv, idl] at hc; omega) | contradiction) | (with_reducible refine Owe.mk ?_ ?_); (first | omega | (unfold most; omega) | decide +kernel | assumption | (simp [most]; done) | (simp [most]; omega)) | (with_reducible intro z hz); first | (replace hz := hz (by omega); subst hz) | subst hz)); try (conv => whnf)
   refine CallB.mk ([.imm (.bool true)]) ([.box 1 [.row 1 2], .row 23 3 2 (List.map idv (L ++ [u.id] ++ idsL (u.kids.take k) ++ x.ids))]) (hB _ _ _ _ _ (hI2)) ?_
   (repeat ((conv => whnf); first | (with_reducible refine Fork.mk (fun _ => ?_) (fun hc => ?_)); rotate_left; (exfalso; first | omega | (simp [eqC, cellsI, idv, idl] at hc; done) | (simp [eqC, cellsI, idv, idl] at hc; omega) | contradiction) | (with_reducible refine Fork.mk (fun hc => ?_) (fun _ => ?_)); (exfalso; first | omega | (simp [eqC, cellsI, idv, idl] at hc; done) | (simp [eqC, cellsI, idv, idl] at hc; omega) | contradiction) | (with_reducible refine Owe.mk ?_ ?_); (first | omega | (unfold most; omega) | decide +kernel | assumption | (simp [most]; done) | (simp [most]; omega)) | (with_reducible intro z hz); first | (replace hz := hz (by omega); subst hz) | subst hz)); try (conv => whnf)
   exact ⟨k + 1, by omega, by dsimp only; omega, ((Weak.row 1 (((L ++ [u.id] ++ idsL (u.kids.take (k + 1))).map idv).map .imm) rfl (by rw [idsL_take hx]; simp))).trans ((Weak.renew 1 2 rfl (by first | omega | (intro _; rw [hk0 _ _ rfl]; exact Nat.le_of_ble_eq_true rfl)) (by repeat (first | exact trivial | refine And.intro (rgL_imms _ _ _ _) ?_ | refine And.intro rfl ?_))).trans (Weak.slots 2 (by first | omega | (rw [h0]; exact Nat.le_of_ble_eq_true rfl)) rfl rfl (by first | rfl | (simp only [List.all_cons, List.all_nil, blkBelow, belowL_imm, belowL, belowB, Bool.and_true, Bool.true_and]; first | done | decide) | simp [blkBelow, belowB, belowL, belowL_imm]) (by repeat (first | exact Wk.nil | refine Wk.drop ?_ | refine Wk.eq (by with_reducible rfl) rfl ?_ | refine Wk.eq (congrArg (fun z => PV.imm (IV.int IntKind.i64 z)) (by first | omega | (simp; done) | (simp; omega))) rfl ?_ | refine Wk.eq rfl rfl ?_))))⟩
 · (repeat ((conv => whnf); first | (with_reducible refine Fork.mk (fun _ => ?_) (fun hc => ?_)); rotate_left; (exfalso; first | omega | (simp [eqC, cellsI, idv, idl] at hc; done) | (simp [eqC, cellsI, idv, idl] at hc; omega) | contradiction) | (with_reducible refine Fork.mk (fun hc => ?_) (fun _ => ?_)); (exfalso; first | omega | (simp [eqC, cellsI, idv, idl] at hc; done) | (simp [eqC, cellsI, idv, idl] at hc; omega) | contradiction) | (with_reducible refine Owe.mk ?_ ?_); (first | omega | (unfold most; omega) | decide +kernel | assumption | (simp [most]; done) | (simp [most]; omega)) | (with_reducible intro z hz); first | (replace hz := hz (by omega); subst hz) | subst hz)); try (conv => whnf)
   obtain rfl : k = u.kids.length := by omega
   refine hfin _ (((Weak.row 1 (((L ++ u.ids).map idv).map .imm) rfl (by rw [List.take_length, ids_eq]; simp))).trans (Weak.slots 2 (by first | omega | (rw [h0]; exact Nat.le_of_ble_eq_true rfl)) rfl rfl (by first | rfl | (simp only [List.all_cons, List.all_nil, blkBelow, belowL_imm, belowL, belowB, Bool.and_true, Bool.true_and]; first | done | decide) | simp [blkBelow, belowB, belowL, belowL_imm]) (by repeat (first | exact Wk.nil | refine Wk.drop ?_ | refine Wk.eq (by with_reducible rfl) rfl ?_ | refine Wk.eq (congrArg (fun z => PV.imm (IV.int IntKind.i64 z)) (by first | omega | (simp; done) | (simp; omega))) rfl ?_ | refine Wk.eq rfl rfl ?_))))
end Go.Proofs.YtmnbobcgjnickaaGreatDoor.Pu
