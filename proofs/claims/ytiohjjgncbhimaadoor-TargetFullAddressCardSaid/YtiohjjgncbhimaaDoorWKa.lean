/-
  The reference's Above and All, IDs, Alike, step by step. The types of this program; the reference's Few and Stands.
-/
import Derived.Test.YtiohjjgncbhimaaDoorVs
import Derived.Test.YtiohjjgncbhimaaDoorLif
import Derived.Test.YtiohjjgncbhimaaDoorWAz
import Derived.Test.YtiohjjgncbhimaaDoorVn
import Derived.Test.YtiohjjgncbhimaaDoorBr
namespace Go.Proofs.YtiohjjgncbhimaaDoor.Pu
open Go Go.Pv
set_option linter.unusedSimpArgs false
open Lab Lcs Go.Proofs.YtiohjjgncbhimaaDoor
set_option maxRecDepth 10000
set_option maxHeartbeats 4000000
def idsL (l : List Ut) : List Trip := (Ut.alls l).map Ut.id
theorem ids_eq (u : Ut) : u.ids = u.id :: idsL u.kids := by
 unfold Ut.ids idsL
 rw [Ut.all_eq]
 rfl
theorem idsL_take {l : List Ut} {k : Nat} {x : Ut} (hx : l[k]? = some x) : idsL (l.take (k + 1)) = idsL (l.take k) ++ x.ids := by
 unfold idsL Ut.ids
 rw [alls_take hx, List.map_append]
theorem idsL_len (l : List Ut) : (idsL l).length = Ut.counts l := by
 unfold idsL
 rw [List.length_map, alls_length]
theorem uids_len (u : Ut) : u.ids.length = u.count := by
 unfold Ut.ids
 rw [List.length_map, all_length]
theorem all_pcr (n : Nat) : ∀ (u : Ut), u.count ≤ n → n ≤ 100000000 → PCR Tryd.prog envU 19 [uv u] 23 3 (u.ids.map idv) := by
 induction n with
 | zero => intro u h; have := count_pos u; omega
 | succ n ih =>
 intro u hn hM
 have hue := uv_eq u
 have hml : (u.kids.map uv).length = u.kids.length := List.length_map _
 have hkl := kids_counts u.kids
 have hcu := Ut.count_eq u
 rw [hue]
 refine PCR.of_vc (T := tb0) eqs_ok tb_ok rfl mixed Tryd.func19 rfl rfl ?_; intro Γ C WK LP fin h0 hW hC hB hR hLP hfin
 (repeat ((conv => whnf); first | (with_reducible refine Fork.mk (fun _ => ?_) (fun hc => ?_)); rotate_left; (exfalso; first | omega | (simp [eqC, cellsI, idv, idl] at hc; done) | (simp [eqC, cellsI, idv, idl] at hc; omega) | contradiction) | (with_reducible refine Fork.mk (fun hc => ?_) (fun _ => ?_)); (exfalso; first | omega | (simp [eqC, cellsI, idv, idl] at hc; done) | (simp [eqC, cellsI, idv, idl] at hc; omega) | contradiction) | (with_reducible refine Owe.mk ?_ ?_); (first | omega | (unfold most; omega) | decide +kernel | assumption | (simp [most]; done) | (simp [most]; omega)) | (with_reducible intro z hz); first | (replace hz := hz (by omega); subst hz) | subst hz)); try (conv => whnf)
 refine hLP _ _ _ Nat (fun k => ⟨[.any, .ptr 0 1 0, .any, .row 1 1, .imm (.int .i64 (k : Nat)), .any, .any, .any, .any, .any, .any, .any, .any, .any, .any, .any, .any, .any, .any, .any, .any, .any, .any, .any], [.box 1 [.imm (.int .i64 u.id.x), .imm (.int .i64 u.id.y), .imm (.int .i64 u.id.z), .imm (.int .i64 u.kind), .imm (.str u.label), .imm (.sl 4 (u.head.map wdv)), .imm (.sl 4 (u.words.map wdv)), .imm (.sl 8 (u.kids.map uv))], .row 23 3 1 (((u.id :: idsL (u.kids.take k)).map idv).map .imm)]⟩) (fun k => k ≤ u.kids.length) (fun k => u.kids.length - k) 0 (Nat.zero_le _) (Weak.slots 2 (by first | omega | (rw [h0]; exact Nat.le_of_ble_eq_true rfl)) rfl rfl (by first | rfl | (simp only [List.all_cons, List.all_nil, blkBelow, belowL_imm, belowL, belowB, Bool.and_true, Bool.true_and]; first | done | decide) | simp [blkBelow, belowB, belowL, belowL_imm]) (by repeat (first | exact Wk.nil | refine Wk.drop ?_ | refine Wk.eq (by with_reducible rfl) rfl ?_ | refine Wk.eq (congrArg (fun z => PV.imm (IV.int IntKind.i64 z)) (by first | omega | (simp; done) | (simp; omega))) rfl ?_ | refine Wk.eq rfl rfl ?_))) ?_
 intro k hk
 by_cases hlt : k < u.kids.length
 · obtain ⟨x, hx⟩ := kid_at hlt
   have h1 := kid_lt' hx
   have hux := uv_eq x
   have hI := (ih x (by omega) (by omega)).pc
   rw [hux] at hI
   have hL : (((u.id :: idsL (u.kids.take k)).map idv).map PV.imm).length = 1 + Ut.counts (u.kids.take k) := by rw [List.length_map, List.length_map, List.length_cons, idsL_len]; omega
   have hL2 : (x.ids.map idv).length = x.count := by rw [List.length_map, uids_len]
   (repeat ((conv => whnf); first | (with_reducible refine Fork.mk (fun _ => ?_) (fun hc => ?_)); rotate_left; (exfalso; first | omega | (simp [eqC, cellsI, idv, idl] at hc; done) | (simp [eqC, cellsI, idv, idl] at hc; omega) | contradiction) | (with_reducible refine Fork.mk (fun hc => ?_) (fun _ => ?_)); (exfalso; first | omega | (simp [eqC, cellsI, idv, idl] at hc; done) | (simp [eqC, cellsI, idv, idl] at hc; omega) | contradiction) | (with_reducible refine Owe.mk ?_ ?_); (first | omega | (unfold most; omega) | decide +kernel | assumption | (simp [most]; done) | (simp [most]; omega)) | (with_reducible intro z hz); first | (replace hz := hz (by omega); subst hz) | subst hz)); try (conv => whnf)
   refine Idx.mk k (uv x) _ rfl (by simp [hx]) (by rw [hux]; try rfl) ?_
   (repeat ((conv => whnf); first | (with_reducible refine Fork.mk (fun _ => ?_) (fun hc => ?_)); rotate_left; (exfalso; first | omega | (simp [eqC, cellsI, idv, idl] at hc; done) | (simp [eqC, cellsI, idv, idl] at hc; omega) | contradiction) | (with_reducible refine Fork.mk (fun hc => ?_) (fun _ => ?_)); (exfalso; first | omega | (simp [eqC, cellsI, idv, idl] at hc; done) | (simp [eqC, cellsI, idv, idl] at hc; omega) | contradiction) | (with_reducible refine Owe.mk ?_ ?_); (first | omega | (unfold most; omega) | decide +kernel | assumption | (simp [most]; done) | (simp [most]; omega)) | (with_reducible intro z hz); first | (replace hz := hz (by omega); subst hz) | subst hz)); try (conv => whnf)
   refine CallV.mk _ (hC _ _ _ (PCw.of (hI))) (fun js hjs => ?_); subst hjs
   (repeat ((conv => whnf); first | (with_reducible refine Fork.mk (fun _ => ?_) (fun hc => ?_)); rotate_left; (exfalso; first | omega | (simp [eqC, cellsI, idv, idl] at hc; done) | (simp [eqC, cellsI, idv, idl] at hc; omega) | contradiction) | (with_reducible refine Fork.mk (fun hc => ?_) (fun _ => ?_)); (exfalso; first | omega | (simp [eqC, cellsI, idv, idl] at hc; done) | (simp [eqC, cellsI, idv, idl] at hc; omega) | contradiction) | (with_reducible refine Owe.mk ?_ ?_); (first | omega | (unfold most; omega) | decide +kernel | assumption | (simp [most]; done) | (simp [most]; omega)) | (with_reducible intro z hz); first | (replace hz := hz (by omega); subst hz) | subst hz)); try (conv => whnf)
   exact ⟨k + 1, by omega, by dsimp only; omega, ((Weak.row 1 (((u.id :: idsL (u.kids.take (k + 1))).map idv).map .imm) rfl (by rw [idsL_take hx]; simp))).trans ((Weak.renew 1 1 rfl (by first | omega | (intro _; rw [hk0 _ _ rfl]; exact Nat.le_of_ble_eq_true rfl)) (by repeat (first | exact trivial | refine And.intro (rgL_imms _ _ _ _) ?_ | refine And.intro rfl ?_))).trans (Weak.slots 2 (by first | omega | (rw [h0]; exact Nat.le_of_ble_eq_true rfl)) rfl rfl (by first | rfl | (simp only [List.all_cons, List.all_nil, blkBelow, belowL_imm, belowL, belowB, Bool.and_true, Bool.true_and]; first | done | decide) | simp [blkBelow, belowB, belowL, belowL_imm]) (by repeat (first | exact Wk.nil | refine Wk.drop ?_ | refine Wk.eq (by with_reducible rfl) rfl ?_ | refine Wk.eq (congrArg (fun z => PV.imm (IV.int IntKind.i64 z)) (by first | omega | (simp; done) | (simp; omega))) rfl ?_ | refine Wk.eq rfl rfl ?_))))⟩
 · (repeat ((conv => whnf); first | (with_reducible refine Fork.mk (fun _ => ?_) (fun hc => ?_)); rotate_left; (exfalso; first | omega | (simp [eqC, cellsI, idv, idl] at hc; done) | (simp [eqC, cellsI, idv, idl] at hc; omega) | contradiction) | (with_reducible refine Fork.mk (fun hc => ?_) (fun _ => ?_)); (exfalso; first | omega | (simp [eqC, cellsI, idv, idl] at hc; done) | (simp [eqC, cellsI, idv, idl] at hc; omega) | contradiction) | (with_reducible refine Owe.mk ?_ ?_); (first | omega | (unfold most; omega) | decide +kernel | assumption | (simp [most]; done) | (simp [most]; omega)) | (with_reducible intro z hz); first | (replace hz := hz (by omega); subst hz) | subst hz)); try (conv => whnf)
   obtain rfl : k = u.kids.length := by omega
   exact hfin _ _ _ _ ((Weak.row 1 ((u.ids.map idv).map .imm) rfl (by rw [List.take_length, ids_eq]))) rfl
end Go.Proofs.YtiohjjgncbhimaaDoor.Pu
namespace Go.Proofs.YtiohjjgncbhimaaDoor.Pk
open Go Go.Pv Go.RowKit Go.Proofs.YtiohjjgncbhimaaDoor.Pu Go.Proofs.YtiohjjgncbhimaaDoor.Pa Go.Proofs.YtiohjjgncbhimaaDoor.Pb
set_option linter.unusedSimpArgs false
open Lab Lcs Go.Proofs.YtiohjjgncbhimaaDoor
set_option maxRecDepth 10000
set_option maxHeartbeats 16000000
theorem tq_int : tdOf Tryd.prog 3 = some ⟨false, 1, [.int .i64 0], .int .i64⟩ := by kernel_rfl
theorem tq_string : tdOf Tryd.prog 9 = some ⟨false, 1, [.str ⟨#[]⟩], .str⟩ := by kernel_rfl
theorem tq_bool : tdOf Tryd.prog 4 = some ⟨false, 1, [.bool false], .bool⟩ := by kernel_rfl
theorem tq_apiId : tdOf Tryd.prog 23 = some ⟨true, 3, [.int .i64 0, .int .i64 0, .int .i64 0], .struct [(0, 1, false), (1, 1, false), (2, 1, false)]⟩ := by kernel_rfl
theorem tq_apiMark : tdOf Tryd.prog 83 = some ⟨true, 3, [.int .i64 0, .int .i64 0, .int .i64 0], .struct [(0, 1, false), (1, 1, false), (2, 1, false)]⟩ := by kernel_rfl
theorem tq_apiWord : tdOf Tryd.prog 85 = some ⟨true, 4, [.str ⟨#[]⟩, .int .i64 0, .int .i64 0, .int .i64 0], .struct [(0, 1, false), (1, 3, true)]⟩ := by kernel_rfl
theorem tq_apiUnit : tdOf Tryd.prog 27 = some ⟨true, 8, [.int .i64 0, .int .i64 0, .int .i64 0, .int .i64 0, .str ⟨#[]⟩, .nil, .nil, .nil], .struct [(0, 3, true), (3, 1, false), (4, 1, false), (5, 1, false), (6, 1, false), (7, 1, false)]⟩ := by kernel_rfl
theorem tq_s_apiUnit : tdOf Tryd.prog 25 = some ⟨false, 1, [.nil], .slice 27 8 120⟩ := by kernel_rfl
theorem tq_s_apiWord : tdOf Tryd.prog 24 = some ⟨false, 1, [.nil], .slice 85 4 40⟩ := by kernel_rfl
theorem tq_s_apiId : tdOf Tryd.prog 43 = some ⟨false, 1, [.nil], .slice 23 3 24⟩ := by kernel_rfl
theorem tq_apiStep : tdOf Tryd.prog 59 = some ⟨true, 2, [.int .i64 0, .str ⟨#[]⟩], .struct [(0, 1, false), (1, 1, false)]⟩ := by kernel_rfl
theorem tq_s_apiStep : tdOf Tryd.prog 28 = some ⟨false, 1, [.nil], .slice 59 2 24⟩ := by kernel_rfl
theorem tq_apiErrno : tdOf Tryd.prog 38 = some ⟨false, 1, [.int .i64 0], .int .i64⟩ := by kernel_rfl
theorem tq_s_string : tdOf Tryd.prog 29 = some ⟨false, 1, [.nil], .slice 9 1 16⟩ := by kernel_rfl
theorem tq_apiStart : tdOf Tryd.prog 31 = some ⟨true, 3, [.int .i64 0, .int .i64 0, .str ⟨#[]⟩], .struct [(0, 1, false), (1, 1, false), (2, 1, false)]⟩ := by kernel_rfl
theorem tq_apiItem : tdOf Tryd.prog 34 = some ⟨true, 25, [.int .i64 0, .nil, .nil, .int .i64 0, .int .i64 0, .int .i64 0, .int .i64 0, .int .i64 0, .int .i64 0, .str ⟨#[]⟩, .nil, .nil, .nil, .nil, .nil, .str ⟨#[]⟩, .str ⟨#[]⟩, .int .i64 0, .int .i64 0, .str ⟨#[]⟩, .int .i64 0, .int .i64 0, .int .i64 0, .str ⟨#[]⟩, .nil], .struct [(0, 1, false), (1, 1, false), (2, 1, false), (3, 1, false), (4, 1, false), (5, 8, true), (13, 1, false), (14, 1, false), (15, 1, false), (16, 1, false), (17, 3, true), (20, 1, false), (21, 1, false), (22, 1, false), (23, 1, false), (24, 1, false)]⟩ := by kernel_rfl
theorem tq_s_apiItem : tdOf Tryd.prog 32 = some ⟨false, 1, [.nil], .slice 34 25 368⟩ := by kernel_rfl
theorem tq_funcapiIdapiIdintbool : tdOf Tryd.prog 63 = some ⟨false, 1, [.nf], .fn⟩ := by kernel_rfl
def tdl : List (TypeId × TD) := [(3, ⟨false, 1, [.int .i64 0], .int .i64⟩), (9, ⟨false, 1, [.str ⟨#[]⟩], .str⟩), (4, ⟨false, 1, [.bool false], .bool⟩), (23, ⟨true, 3, [.int .i64 0, .int .i64 0, .int .i64 0], .struct [(0, 1, false), (1, 1, false), (2, 1, false)]⟩), (83, ⟨true, 3, [.int .i64 0, .int .i64 0, .int .i64 0], .struct [(0, 1, false), (1, 1, false), (2, 1, false)]⟩), (85, ⟨true, 4, [.str ⟨#[]⟩, .int .i64 0, .int .i64 0, .int .i64 0], .struct [(0, 1, false), (1, 3, true)]⟩), (27, ⟨true, 8, [.int .i64 0, .int .i64 0, .int .i64 0, .int .i64 0, .str ⟨#[]⟩, .nil, .nil, .nil], .struct [(0, 3, true), (3, 1, false), (4, 1, false), (5, 1, false), (6, 1, false), (7, 1, false)]⟩), (25, ⟨false, 1, [.nil], .slice 27 8 120⟩), (24, ⟨false, 1, [.nil], .slice 85 4 40⟩), (43, ⟨false, 1, [.nil], .slice 23 3 24⟩), (59, ⟨true, 2, [.int .i64 0, .str ⟨#[]⟩], .struct [(0, 1, false), (1, 1, false)]⟩), (28, ⟨false, 1, [.nil], .slice 59 2 24⟩), (38, ⟨false, 1, [.int .i64 0], .int .i64⟩), (29, ⟨false, 1, [.nil], .slice 9 1 16⟩), (31, ⟨true, 3, [.int .i64 0, .int .i64 0, .str ⟨#[]⟩], .struct [(0, 1, false), (1, 1, false), (2, 1, false)]⟩), (34, ⟨true, 25, [.int .i64 0, .nil, .nil, .int .i64 0, .int .i64 0, .int .i64 0, .int .i64 0, .int .i64 0, .int .i64 0, .str ⟨#[]⟩, .nil, .nil, .nil, .nil, .nil, .str ⟨#[]⟩, .str ⟨#[]⟩, .int .i64 0, .int .i64 0, .str ⟨#[]⟩, .int .i64 0, .int .i64 0, .int .i64 0, .str ⟨#[]⟩, .nil], .struct [(0, 1, false), (1, 1, false), (2, 1, false), (3, 1, false), (4, 1, false), (5, 8, true), (13, 1, false), (14, 1, false), (15, 1, false), (16, 1, false), (17, 3, true), (20, 1, false), (21, 1, false), (22, 1, false), (23, 1, false), (24, 1, false)]⟩), (32, ⟨false, 1, [.nil], .slice 34 25 368⟩), (63, ⟨false, 1, [.nf], .fn⟩)]
theorem tdl_ok : AllTd Tryd.prog tdl := ⟨tq_int, tq_string, tq_bool, tq_apiId, tq_apiMark, tq_apiWord, tq_apiUnit, tq_s_apiUnit, tq_s_apiWord, tq_s_apiId, tq_apiStep, tq_s_apiStep, tq_apiErrno, tq_s_string, tq_apiStart, tq_apiItem, tq_s_apiItem, tq_funcapiIdapiIdintbool, trivial⟩
abbrev envU : Env := Pu.envU
def nwK (f : FuncId) : Nat := bif Nat.beq f 28 then 2 else 0
def tbn (fr : Nat → List Nat) (hk : Nat → Bool) : Tb := ⟨Pv.look tdl, eqs2, fun _ => none, fr, hk, nwK⟩
abbrev tbf (fr : Nat → List Nat) : Tb := tbn fr fun _ => false
def tb0 : Tb := tbf fun _ => []
theorem tb_ok {fr : Nat → List Nat} {hk : Nat → Bool} : ∀ t d, (tbn fr hk).td t = some d → tdOf Tryd.prog t = some d := Pv.look_ok tdl_ok
theorem id_eq {a b : Trip} (h : a = b) : eqC [.int .i64 a.x, .int .i64 a.y, .int .i64 a.z] [.int .i64 b.x, .int .i64 b.y, .int .i64 b.z] = true := by subst h; simp [eqC]
theorem id_ne {a b : Trip} (h : a ≠ b) : ¬ eqC [.int .i64 a.x, .int .i64 a.y, .int .i64 a.z] [.int .i64 b.x, .int .i64 b.y, .int .i64 b.z] = true := fun e => h (by cases a; cases b; simpa [eqC] using e)
theorem take_at {α : Type} {l : List α} {k : Nat} {x : α} (hx : l[k]? = some x) : l.take (k + 1) = l.take k ++ [x] := by rw [List.take_add_one, hx]; rfl
mutual
def sizeN : Ut → Int → Int → Int
 | .mk _ _ _ _ _ kids, d, m => if 20 < d then m + 1 else sizeL kids d m 1
def sizeL : List Ut → Int → Int → Int → Int
 | [], _, _, n => n
 | u :: r, d, m, n => if n ≤ m then sizeL r d m (n + sizeN u (d + 1) (m - n)) else n
end
theorem sizeN_eq (u : Ut) (d m : Int) : sizeN u d m = if 20 < d then m + 1 else sizeL u.kids d m 1 := by
 cases u; rw [sizeN]; rfl
mutual
theorem sizeN_pos : ∀ (u : Ut) (d m : Int), 0 ≤ m → 1 ≤ sizeN u d m ∧ sizeN u d m ≤ m + 1
 | .mk _ _ _ _ _ kids, d, m, hm => by
   rw [sizeN]
   split
   · omega
   · exact sizeL_pos kids d m 1 (by omega) (by omega)
theorem sizeL_pos : ∀ (l : List Ut) (d m n : Int), 1 ≤ n → n ≤ m + 1 → 1 ≤ sizeL l d m n ∧ sizeL l d m n ≤ m + 1
 | [], _, _, n, h1, h2 => by rw [sizeL]; omega
 | u :: r, d, m, n, h1, h2 => by
   rw [sizeL]
   split
   · have := sizeN_pos u (d + 1) (m - n) (by omega)
     exact sizeL_pos r d m _ (by omega) (by omega)
   · omega
end
mutual
theorem sizeN_few : ∀ (u : Ut) (d m : Int), 0 ≤ m → sizeN u d m ≤ m → sizeN u d m = u.count ∧ d + u.depth ≤ 20
 | .mk id kind label head words kids, d, m, hm, h => by
   rw [sizeN] at h ⊢
   split at h
   · omega
   · rename_i hd
     rw [if_neg hd]
     have := sizeL_few kids d m 1 (by omega) (by omega) h
     rw [count_mk, depth_mk]
     omega
theorem sizeL_few : ∀ (l : List Ut) (d m n : Int), 1 ≤ n → d ≤ 20 → sizeL l d m n ≤ m → sizeL l d m n = n + Ut.counts l ∧ d + Ut.depths l ≤ 20
 | [], d, m, n, h1, h2, h => by
   rw [sizeL] at h ⊢
   simp only [Ut.counts, Ut.depths]
   omega
 | u :: r, d, m, n, h1, h2, h => by
   rw [sizeL] at h ⊢
   split at h
   · rename_i hn
     rw [if_pos hn]
     have hp := sizeN_pos u (d + 1) (m - n) (by omega)
     have h3 := sizeL_few r d m (n + sizeN u (d + 1) (m - n)) (by omega) h2 h
     have h4 := sizeN_few u (d + 1) (m - n) (by omega) (by omega)
     simp only [Ut.counts, Ut.depths]
     omega
   · omega
end
def fewU (u : Ut) (m : Int) : Bool := decide (sizeN u 0 m ≤ m) && u.all.all fewB
theorem few_small {u : Ut} {m : Nat} (h : fewU u m = true) : Small m u := by
 unfold fewU at h
 simp only [Bool.and_eq_true, decide_eq_true_eq] at h
 obtain ⟨h1, h2⟩ := h
 obtain ⟨h3, h4⟩ := sizeN_few u 0 m (by omega) h1
 exact ⟨by omega, by omega, h2⟩
theorem few30 {u : Ut} (h : fewU u 30 = true) : u.count ≤ 30 ∧ Tame u ∧ small u := by
 have hs := few_small (m := 30) h
 have ht := hs.tame (by omega)
 exact ⟨hs.1, ht, fun x hx => ⟨by have := (ht.2 x hx).2.1; omega, by have := (ht.2 x hx).2.2; omega⟩⟩
theorem size_pc (N : Nat) : ∀ (u : Ut) (d m : Int), u.count ≤ N → 0 ≤ d → d ≤ 21 → 0 ≤ m → m ≤ 1000 → PC Tryd.prog Pu.envU 31 [uv u, .int .i64 d, .int .i64 m] [.int .i64 (sizeN u d m)] := by
 induction N with
 | zero => intro u d m h; have := count_pos u; omega
 | succ N ih =>
 intro u d m hN h0 hd hm0 hm
 have hue := uv_eq u
 have hcu := Ut.count_eq u
 have hkl := kids_counts u.kids
 have hml : (u.kids.map uv).length = u.kids.length := List.length_map _
 rw [sizeN_eq, hue]
 by_cases hlt : 20 < d
 · rw [if_pos hlt]
   refine PC.of_va (T := tb0) eqs2_ok tb_ok rfl mixed Tryd.func31 rfl rfl (Nat.le_of_ble_eq_true rfl) ?_; intro Γ C WK LP fin h0 hW hC hB hR hLP hfin
   (try (conv => whnf)); (repeat ((first | refine qT ?_ | refine qF ?_ | refine qO ?_ | (with_reducible intro z hz); (first | (replace hz := hz (by omega); subst hz) | subst hz)); (try (conv => whnf))))
   exact hfin _ (ILes.refl _)
 · rw [if_neg hlt]
   refine PC.of_va (T := tb0) eqs2_ok tb_ok rfl mixed Tryd.func31 rfl rfl (Nat.le_of_ble_eq_true rfl) ?_; intro Γ C WK LP fin h0 hW hC hB hR hLP hfin
   (try (conv => whnf)); (repeat ((first | refine qT ?_ | refine qF ?_ | refine qO ?_ | (with_reducible intro z hz); (first | (replace hz := hz (by omega); subst hz) | subst hz)); (try (conv => whnf))))
   refine hLP _ _ _ (Nat × Int) (fun p => ⟨[(1, .imm (.int .i64 d)), (2, .imm (.int .i64 m)), (3, .ptr 0 1 0), (7, .imm (.int .i64 p.2)), (8, .imm (.int .i64 (p.1 : Nat)))], [.box 1 [.imm (.int .i64 u.id.x), .imm (.int .i64 u.id.y), .imm (.int .i64 u.id.z), .imm (.int .i64 u.kind), .imm (.str u.label), .imm (.sl 4 (u.head.map wdv)), .imm (.sl 4 (u.words.map wdv)), .imm (.sl 8 (u.kids.map uv))]]⟩) (fun p => p.1 ≤ u.kids.length ∧ p.1 + 1 ≤ p.2 ∧ p.2 ≤ m + 1 ∧ sizeL (u.kids.drop p.1) d m p.2 = sizeL u.kids d m 1) (fun p => u.kids.length - p.1) (0, 1) ⟨Nat.zero_le _, by dsimp only; omega, by dsimp only; omega, rfl⟩ (qSL 1 rfl rfl) ?_
   rintro ⟨k, n⟩ ⟨hk, hkn, hn, hinv⟩
   dsimp only at hk hkn hn hinv ⊢
   have hho := Nat.lt_or_ge k u.kids.length
   cases hho with
   | inl hlt2 =>
     obtain ⟨x, hx⟩ : ∃ x, u.kids[k]? = some x := ⟨u.kids[k], List.getElem?_eq_getElem hlt2⟩
     have hdrop : u.kids.drop k = x :: u.kids.drop (k + 1) := by
       rw [List.drop_eq_getElem_cons hlt2]
       congr 1
       exact (List.getElem?_eq_some_iff.1 hx).2
     rw [hdrop, sizeL] at hinv
     by_cases hnm : n ≤ m
     · have hux := uv_eq x
       have hp := sizeN_pos x (d + 1) (m - n) (by omega)
       have hkc := kid_lt' hx
       have hI := ih x (d + 1) (m - n) (by omega) (by omega) (by omega) (by omega) (by omega)
       rw [if_pos hnm] at hinv
       generalize sizeN x (d + 1) (m - n) = q at hI hp hinv
       rw [hux] at hI
       (try (conv => whnf)); (repeat ((first | refine qT ?_ | refine qF ?_ | refine qO ?_ | (with_reducible intro z hz); (first | (replace hz := hz (by omega); subst hz) | subst hz)); (try (conv => whnf))))
       refine Idx.mk k (uv x) _ rfl (by simp [hx]) (by rw [hux]; try rfl) ?_
       (try (conv => whnf)); (repeat ((first | refine qT ?_ | refine qF ?_ | refine qO ?_ | (with_reducible intro z hz); (first | (replace hz := hz (by omega); subst hz) | subst hz) | (refine CallV.mk _ (hC _ _ _ (PCw.of hI)) (fun js hjs => ?_); subst hjs)); (try (conv => whnf))))
       exact ⟨(k + 1, n + q), ⟨by dsimp only; omega, by dsimp only; omega, by dsimp only; omega, hinv⟩, by dsimp only; omega, (qSL 1 rfl rfl)⟩
     · rw [if_neg hnm] at hinv
       (try (conv => whnf)); (repeat ((first | refine qT ?_ | refine qF ?_ | refine qO ?_ | (with_reducible intro z hz); (first | (replace hz := hz (by omega); subst hz) | subst hz)); (try (conv => whnf))))
       refine hfin _ ?_
       rw [← hinv]
       exact ILes.refl _
   | inr hge =>
     rw [List.drop_eq_nil_of_le hge, sizeL] at hinv
     (try (conv => whnf)); (repeat ((first | refine qT ?_ | refine qF ?_ | refine qO ?_ | (with_reducible intro z hz); (first | (replace hz := hz (by omega); subst hz) | subst hz)); (try (conv => whnf))))
     refine hfin _ ?_
     rw [← hinv]
     exact ILes.refl _
theorem few_pc (u : Ut) (m : Int) (hok : okU u) (h0 : 0 ≤ m) (hm : m ≤ 1000) : PC Tryd.prog Pu.envU 23 [uv u, .int .i64 m] [.bool (fewU u m)] := by
 have hS := size_pc u.count u 0 m (Nat.le_refl _) (by omega) (by omega) h0 hm
 have hWo := words_pc u hok
 have hue := uv_eq u
 unfold fewU
 rw [hue] at hS hWo ⊢
 generalize u.all.all fewB = b at hWo ⊢
 generalize sizeN u 0 m = q at hS ⊢
 by_cases hz : q ≤ m
 · rw [decide_eq_true hz, Bool.true_and]
   refine PC.of_va (T := tb0) eqs2_ok tb_ok rfl mixed Tryd.func23 rfl rfl (Nat.le_of_ble_eq_true rfl) ?_; intro Γ C WK LP fin h0 hW hC hB hR hLP hfin
   (try (conv => whnf)); (repeat ((first | refine qT ?_ | refine qF ?_ | refine qO ?_ | (with_reducible intro z hz); (first | (replace hz := hz (by omega); subst hz) | subst hz) | (refine CallV.mk _ (hC _ _ _ (PCw.of hS)) (fun js hjs => ?_); subst hjs) | (refine CallV.mk _ (hC _ _ _ (PCw.of hWo)) (fun js hjs => ?_); subst hjs)); (try (conv => whnf))))
   exact hfin _ (ILes.refl _)
 · rw [decide_eq_false hz, Bool.false_and]
   refine PC.of_va (T := tb0) eqs2_ok tb_ok rfl mixed Tryd.func23 rfl rfl (Nat.le_of_ble_eq_true rfl) ?_; intro Γ C WK LP fin h0 hW hC hB hR hLP hfin
   (try (conv => whnf)); (repeat ((first | refine qT ?_ | refine qF ?_ | refine qO ?_ | (with_reducible intro z hz); (first | (replace hz := hz (by omega); subst hz) | subst hz) | (refine CallV.mk _ (hC _ _ _ (PCw.of hS)) (fun js hjs => ?_); subst hjs)); (try (conv => whnf))))
   exact hfin _ (ILes.refl _)
mutual
def namedR : Ut → Bool
 | .mk id kind _ _ _ kids => !(!decide (kind = 0) && decide (id = Trip.zero)) && namedRs kids
def namedRs : List Ut → Bool
 | [] => true
 | u :: r => namedR u && namedRs r
end
theorem namedR_eq (u : Ut) : namedR u = (!(!decide (u.kind = 0) && decide (u.id = Trip.zero)) && namedRs u.kids) := by cases u; rw [namedR]; rfl
theorem namedRs_app : ∀ a b : List Ut, namedRs (a ++ b) = (namedRs a && namedRs b)
 | [], b => by simp [namedRs]
 | u :: a, b => by simp [namedRs, namedRs_app a b, Bool.and_assoc]
theorem namedRs_no {l : List Ut} {k : Nat} {x : Ut} (hx : l[k]? = some x) (h : namedR x = false) : namedRs l = false := by
 obtain ⟨hk, he⟩ := List.getElem?_eq_some_iff.1 hx
 have : l = l.take k ++ x :: l.drop (k + 1) := by rw [← he, ← List.drop_eq_getElem_cons hk, List.take_append_drop]
 rw [this, namedRs_app]
 simp [namedRs, h]
theorem named_pc (n : Nat) : ∀ u : Ut, u.count ≤ n → n ≤ 100000000 → PC Tryd.prog Pu.envU 34 [uv u] [.bool (namedR u)] := by
 induction n with
 | zero => intro u h; have := count_pos u; omega
 | succ n ih =>
 intro u hn hM
 have hue := uv_eq u
 have hcu := Ut.count_eq u
 have hkl := kids_counts u.kids
 have hml : (u.kids.map uv).length = u.kids.length := List.length_map _
 rw [namedR_eq]
 rw [hue]
 by_cases hz : u.kind ≠ 0 ∧ u.id = Trip.zero
 · have hk0 := hz.1
   have hi := id_eq hz.2
   rw [decide_eq_false hz.1, decide_eq_true hz.2]
   refine PC.of_va (T := tb0) eqs2_ok tb_ok rfl mixed Tryd.func34 rfl rfl (Nat.le_of_ble_eq_true rfl) ?_; intro Γ C WK LP fin h0 hW hC hB hR hLP hfin
   (try (conv => whnf)); (repeat ((first | refine qT ?_ | refine qF ?_ | refine qO ?_ | (with_reducible intro z hz); (first | (replace hz := hz (by omega); subst hz) | subst hz)); (try (conv => whnf))))
   exact hfin _ (ILes.refl _)
 · have hb : (!(!decide (u.kind = 0) && decide (u.id = Trip.zero))) = true := by
     by_cases h1 : u.kind = 0 <;> by_cases h2 : u.id = Trip.zero <;> simp_all
   rw [hb, Bool.true_and]
   by_cases hk0 : u.kind = 0
   · refine PC.of_va (T := tb0) eqs2_ok tb_ok rfl mixed Tryd.func34 rfl rfl (Nat.le_of_ble_eq_true rfl) ?_; intro Γ C WK LP fin h0 hW hC hB hR hLP hfin
     (try (conv => whnf)); (repeat ((first | refine qT ?_ | refine qF ?_ | refine qO ?_ | (with_reducible intro z hz); (first | (replace hz := hz (by omega); subst hz) | subst hz)); (try (conv => whnf))))
     refine hLP _ _ _ Nat (fun k => ⟨[(1, .ptr 0 1 0), (3, .imm (.int .i64 (k : Nat)))], [.box 1 [.imm (.int .i64 u.id.x), .imm (.int .i64 u.id.y), .imm (.int .i64 u.id.z), .imm (.int .i64 u.kind), .imm (.str u.label), .imm (.sl 4 (u.head.map wdv)), .imm (.sl 4 (u.words.map wdv)), .imm (.sl 8 (u.kids.map uv))]]⟩) (fun k => k ≤ u.kids.length ∧ namedRs (u.kids.take k) = true) (fun k => u.kids.length - k) 0 ⟨Nat.zero_le _, rfl⟩ (qSL 1 rfl rfl) ?_
     rintro k ⟨hk, hp⟩
     have hho := Nat.lt_or_ge k u.kids.length
     cases hho with
     | inl hlt =>
       obtain ⟨x, hx⟩ : ∃ x, u.kids[k]? = some x := ⟨u.kids[k], List.getElem?_eq_getElem hlt⟩
       have hux := uv_eq x
       have hc := kid_lt' hx
       have hI := ih x (by omega) (by omega)
       rw [hux] at hI
       by_cases hnx : namedR x = true
       · rw [hnx] at hI
         (try (conv => whnf)); (repeat ((first | refine qT ?_ | refine qF ?_ | refine qO ?_ | (with_reducible intro z hz); (first | (replace hz := hz (by omega); subst hz) | subst hz)); (try (conv => whnf))))
         refine Idx.mk k (uv x) _ rfl (by simp [hx]) (by rw [hux]; try rfl) ?_
         (try (conv => whnf)); (repeat ((first | refine qT ?_ | refine qF ?_ | refine qO ?_ | (with_reducible intro z hz); (first | (replace hz := hz (by omega); subst hz) | subst hz) | (refine CallV.mk _ (hC _ _ _ (PCw.of hI)) (fun js hjs => ?_); subst hjs)); (try (conv => whnf))))
         exact ⟨k + 1, ⟨by omega, by rw [take_at hx, namedRs_app, hp]; simp [namedRs, hnx]⟩, by dsimp only; omega, (qSL 1 rfl rfl)⟩
       · rw [Bool.not_eq_true] at hnx
         rw [hnx] at hI
         (try (conv => whnf)); (repeat ((first | refine qT ?_ | refine qF ?_ | refine qO ?_ | (with_reducible intro z hz); (first | (replace hz := hz (by omega); subst hz) | subst hz)); (try (conv => whnf))))
         refine Idx.mk k (uv x) _ rfl (by simp [hx]) (by rw [hux]; try rfl) ?_
         (try (conv => whnf)); (repeat ((first | refine qT ?_ | refine qF ?_ | refine qO ?_ | (with_reducible intro z hz); (first | (replace hz := hz (by omega); subst hz) | subst hz) | (refine CallV.mk _ (hC _ _ _ (PCw.of hI)) (fun js hjs => ?_); subst hjs)); (try (conv => whnf))))
         rw [namedRs_no hx hnx] at hfin
         exact hfin _ (ILes.refl _)
     | inr hge =>
       obtain rfl : k = u.kids.length := by omega
       rw [List.take_length] at hp
       rw [hp] at hfin
       (try (conv => whnf)); (repeat ((first | refine qT ?_ | refine qF ?_ | refine qO ?_ | (with_reducible intro z hz); (first | (replace hz := hz (by omega); subst hz) | subst hz)); (try (conv => whnf))))
       exact hfin _ (ILes.refl _)
   · have hi : ¬ eqC [.int .i64 u.id.x, .int .i64 u.id.y, .int .i64 u.id.z] [.int .i64 Trip.zero.x, .int .i64 Trip.zero.y, .int .i64 Trip.zero.z] = true := id_ne fun h => hz ⟨hk0, h⟩
     refine PC.of_va (T := tb0) eqs2_ok tb_ok rfl mixed Tryd.func34 rfl rfl (Nat.le_of_ble_eq_true rfl) ?_; intro Γ C WK LP fin h0 hW hC hB hR hLP hfin
     (try (conv => whnf)); (repeat ((first | refine qT ?_ | refine qF ?_ | refine qO ?_ | (with_reducible intro z hz); (first | (replace hz := hz (by omega); subst hz) | subst hz)); (try (conv => whnf))))
     refine hLP _ _ _ Nat (fun k => ⟨[(1, .ptr 0 1 0), (3, .imm (.int .i64 (k : Nat)))], [.box 1 [.imm (.int .i64 u.id.x), .imm (.int .i64 u.id.y), .imm (.int .i64 u.id.z), .imm (.int .i64 u.kind), .imm (.str u.label), .imm (.sl 4 (u.head.map wdv)), .imm (.sl 4 (u.words.map wdv)), .imm (.sl 8 (u.kids.map uv))]]⟩) (fun k => k ≤ u.kids.length ∧ namedRs (u.kids.take k) = true) (fun k => u.kids.length - k) 0 ⟨Nat.zero_le _, rfl⟩ (qSL 1 rfl rfl) ?_
     rintro k ⟨hk, hp⟩
     have hho := Nat.lt_or_ge k u.kids.length
     cases hho with
     | inl hlt =>
       obtain ⟨x, hx⟩ : ∃ x, u.kids[k]? = some x := ⟨u.kids[k], List.getElem?_eq_getElem hlt⟩
       have hux := uv_eq x
       have hc := kid_lt' hx
       have hI := ih x (by omega) (by omega)
       rw [hux] at hI
       by_cases hnx : namedR x = true
       · rw [hnx] at hI
         (try (conv => whnf)); (repeat ((first | refine qT ?_ | refine qF ?_ | refine qO ?_ | (with_reducible intro z hz); (first | (replace hz := hz (by omega); subst hz) | subst hz)); (try (conv => whnf))))
         refine Idx.mk k (uv x) _ rfl (by simp [hx]) (by rw [hux]; try rfl) ?_
         (try (conv => whnf)); (repeat ((first | refine qT ?_ | refine qF ?_ | refine qO ?_ | (with_reducible intro z hz); (first | (replace hz := hz (by omega); subst hz) | subst hz) | (refine CallV.mk _ (hC _ _ _ (PCw.of hI)) (fun js hjs => ?_); subst hjs)); (try (conv => whnf))))
         exact ⟨k + 1, ⟨by omega, by rw [take_at hx, namedRs_app, hp]; simp [namedRs, hnx]⟩, by dsimp only; omega, (qSL 1 rfl rfl)⟩
       · rw [Bool.not_eq_true] at hnx
         rw [hnx] at hI
         (try (conv => whnf)); (repeat ((first | refine qT ?_ | refine qF ?_ | refine qO ?_ | (with_reducible intro z hz); (first | (replace hz := hz (by omega); subst hz) | subst hz)); (try (conv => whnf))))
         refine Idx.mk k (uv x) _ rfl (by simp [hx]) (by rw [hux]; try rfl) ?_
         (try (conv => whnf)); (repeat ((first | refine qT ?_ | refine qF ?_ | refine qO ?_ | (with_reducible intro z hz); (first | (replace hz := hz (by omega); subst hz) | subst hz) | (refine CallV.mk _ (hC _ _ _ (PCw.of hI)) (fun js hjs => ?_); subst hjs)); (try (conv => whnf))))
         rw [namedRs_no hx hnx] at hfin
         exact hfin _ (ILes.refl _)
     | inr hge =>
       obtain rfl : k = u.kids.length := by omega
       rw [List.take_length] at hp
       rw [hp] at hfin
       (try (conv => whnf)); (repeat ((first | refine qT ?_ | refine qF ?_ | refine qO ?_ | (with_reducible intro z hz); (first | (replace hz := hz (by omega); subst hz) | subst hz)); (try (conv => whnf))))
       exact hfin _ (ILes.refl _)
def standsR (u : Ut) : Bool := validB u && namedR u
theorem stands_pc (u : Ut) (hok : okU u) (hM : Tame u) (h : u.count ≤ 100000000) : PC Tryd.prog Pu.envU 24 [uv u] [.bool (standsR u)] := by
 have hV := rmay_pc u hok hM
 have hN := named_pc u.count u (Nat.le_refl _) h
 have hue := uv_eq u
 unfold standsR
 rw [hue] at hV hN ⊢
 generalize validB u = b at hV ⊢
 generalize namedR u = c at hN ⊢
 cases b
 · refine PC.of_va (T := tb0) eqs2_ok tb_ok rfl mixed Tryd.func24 rfl rfl (Nat.le_of_ble_eq_true rfl) ?_; intro Γ C WK LP fin h0 hW hC hB hR hLP hfin
   (try (conv => whnf)); (repeat ((first | refine qT ?_ | refine qF ?_ | refine qO ?_ | (with_reducible intro z hz); (first | (replace hz := hz (by omega); subst hz) | subst hz) | (refine CallV.mk _ (hC _ _ _ (PCw.of hV)) (fun js hjs => ?_); subst hjs)); (try (conv => whnf))))
   exact hfin _ (ILes.refl _)
 · rw [Bool.true_and]
   refine PC.of_va (T := tb0) eqs2_ok tb_ok rfl mixed Tryd.func24 rfl rfl (Nat.le_of_ble_eq_true rfl) ?_; intro Γ C WK LP fin h0 hW hC hB hR hLP hfin
   (try (conv => whnf)); (repeat ((first | refine qT ?_ | refine qF ?_ | refine qO ?_ | (with_reducible intro z hz); (first | (replace hz := hz (by omega); subst hz) | subst hz) | (refine CallV.mk _ (hC _ _ _ (PCw.of hV)) (fun js hjs => ?_); subst hjs) | (refine CallV.mk _ (hC _ _ _ (PCw.of hN)) (fun js hjs => ?_); subst hjs)); (try (conv => whnf))))
   exact hfin _ (ILes.refl _)
def idxT (t : Trip) (l : List Trip) : Int := if t ∈ l then ((l.findIdx fun x => decide (x = t) : Nat) : Int) else -1
theorem idx_hit {t : Trip} {l : List Trip} {k : Nat} (hx : l[k]? = some t) (hp : ∀ x ∈ l.take k, x ≠ t) : idxT t l = k := by
 unfold idxT
 rw [if_pos (List.mem_of_getElem? hx)]
 obtain ⟨hk, he⟩ := List.getElem?_eq_some_iff.1 hx
 congr 1
 refine (List.findIdx_eq hk).2 ⟨by simp [he], fun j hj => ?_⟩
 have : l[j] ∈ l.take k := by rw [List.mem_take_iff_getElem]; exact ⟨j, by omega, rfl⟩
 simpa using hp _ this
theorem index_pc (t : Trip) (l : List Trip) (hl : l.length ≤ 100000000) : PC Tryd.prog Pu.envU 71 [.sl 3 (l.map idv), idv t] [.int .i64 (idxT t l)] := by
 have hml : (l.map idv).length = l.length := List.length_map _
 refine PC.of_va (T := tb0) eqs2_ok tb_ok rfl mixed Tryd.func71 rfl rfl (Nat.le_of_ble_eq_true rfl) ?_; intro Γ C WK LP fin h0 hW hC hB hR hLP hfin
 (try (conv => whnf)); (repeat ((first | refine qT ?_ | refine qF ?_ | refine qO ?_ | (with_reducible intro z hz); (first | (replace hz := hz (by omega); subst hz) | subst hz)); (try (conv => whnf))))
 refine hLP _ _ _ Nat (fun k => ⟨[(0, .imm (.sl 3 (l.map idv))), (3, .ptr 0 1 0), (7, .imm (.int .i64 (l.length : Nat))), (8, .imm (.int .i64 (k : Nat)))], [.box 1 [.imm (.int .i64 t.x), .imm (.int .i64 t.y), .imm (.int .i64 t.z)]]⟩) (fun k => k ≤ l.length ∧ ∀ x ∈ l.take k, x ≠ t) (fun k => l.length - k) 0 ⟨Nat.zero_le _, by simp⟩ (qSL 1 rfl rfl (hE := by (repeat ((conv => whnf); first | exact trivial | refine And.intro (by first | exact WkOne.any | exact WkOne.eq (by with_reducible rfl) rfl | exact WkOne.eq (congrArg (fun z => PV.imm (IV.int IntKind.i64 z)) (by first | omega | (simp [hml]; done) | (simp [hml]; omega))) rfl | exact WkOne.eq (by first | (simp [hml]; done) | fail) rfl | exact WkOne.eq rfl rfl | exact WkOne.le rfl (ILe.nil _)) ?_)))) ?_
 rintro k ⟨hk, hp⟩
 have hho := Nat.lt_or_ge k l.length
 cases hho with
 | inl hlt =>
   obtain ⟨x, hx⟩ : ∃ x, l[k]? = some x := ⟨l[k], List.getElem?_eq_getElem hlt⟩
   by_cases hxt : t = x
   · have hi := id_eq hxt
     (try (conv => whnf)); (repeat ((first | refine qT ?_ | refine qF ?_ | refine qO ?_ | (with_reducible intro z hz); (first | (replace hz := hz (by omega); subst hz) | subst hz)); (try (conv => whnf))))
     refine Idx.mk k (idv x) _ rfl (by simp [hx]) rfl ?_
     (try (conv => whnf)); (repeat ((first | refine qT ?_ | refine qF ?_ | refine qO ?_ | (with_reducible intro z hz); (first | (replace hz := hz (by omega); subst hz) | subst hz)); (try (conv => whnf))))
     refine hfin _ ?_
     subst hxt
     rw [idx_hit hx hp]
     exact ILes.refl _
   · have hi := id_ne hxt
     (try (conv => whnf)); (repeat ((first | refine qT ?_ | refine qF ?_ | refine qO ?_ | (with_reducible intro z hz); (first | (replace hz := hz (by omega); subst hz) | subst hz)); (try (conv => whnf))))
     refine Idx.mk k (idv x) _ rfl (by simp [hx]) rfl ?_
     (try (conv => whnf)); (repeat ((first | refine qT ?_ | refine qF ?_ | refine qO ?_ | (with_reducible intro z hz); (first | (replace hz := hz (by omega); subst hz) | subst hz)); (try (conv => whnf))))
     exact ⟨k + 1, ⟨by omega, fun y hy => by
       rw [take_at hx, List.mem_append] at hy
       rcases hy with hy | hy
       · exact hp y hy
       · rw [List.mem_singleton.1 hy]; exact Ne.symm hxt⟩, by dsimp only; omega, (qSL 1 rfl rfl)⟩
 | inr hge =>
   (try (conv => whnf)); (repeat ((first | refine qT ?_ | refine qF ?_ | refine qO ?_ | (with_reducible intro z hz); (first | (replace hz := hz (by omega); subst hz) | subst hz)); (try (conv => whnf))))
   refine hfin _ ?_
   obtain rfl : k = l.length := by omega
   rw [List.take_length] at hp
   have : idxT t l = -1 := by unfold idxT; rw [if_neg fun h => hp t h rfl]
   rw [this]
   exact ILes.refl _
theorem contains_pc (t : Trip) (l : List Trip) (hl : l.length ≤ 100000000) : PC Tryd.prog Pu.envU 60 [.sl 3 (l.map idv), idv t] [.bool (decide (t ∈ l))] := by
 have hIx := index_pc t l hl
 unfold idxT at hIx
 by_cases h : t ∈ l
 · rw [if_pos h] at hIx
   rw [decide_eq_true h]
   refine PC.of_va (T := tb0) eqs2_ok tb_ok rfl mixed Tryd.func60 rfl rfl (Nat.le_of_ble_eq_true rfl) ?_; intro Γ C WK LP fin h0 hW hC hB hR hLP hfin
   (try (conv => whnf)); (repeat ((first | refine qT ?_ | refine qF ?_ | refine qO ?_ | (with_reducible intro z hz); (first | (replace hz := hz (by omega); subst hz) | subst hz) | (refine CallV.mk _ (hC _ _ _ (PCw.of hIx)) (fun js hjs => ?_); subst hjs)); (try (conv => whnf))))
   exact hfin _ (ILes.refl _)
 · rw [if_neg h] at hIx
   rw [decide_eq_false h]
   refine PC.of_va (T := tb0) eqs2_ok tb_ok rfl mixed Tryd.func60 rfl rfl (Nat.le_of_ble_eq_true rfl) ?_; intro Γ C WK LP fin h0 hW hC hB hR hLP hfin
   (try (conv => whnf)); (repeat ((first | refine qT ?_ | refine qF ?_ | refine qO ?_ | (with_reducible intro z hz); (first | (replace hz := hz (by omega); subst hz) | subst hz) | (refine CallV.mk _ (hC _ _ _ (PCw.of hIx)) (fun js hjs => ?_); subst hjs)); (try (conv => whnf))))
   exact hfin _ (ILes.refl _)
end Go.Proofs.YtiohjjgncbhimaaDoor.Pk
