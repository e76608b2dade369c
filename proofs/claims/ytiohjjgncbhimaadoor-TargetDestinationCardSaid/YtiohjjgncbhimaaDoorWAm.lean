/-
  Addresses: the types of this program, tables, steps as plain values; contracts of the elder kind that layer 7 reaches. validStep, Valid; the reference's May. firstMatches, kidsMatching, matches, FindAll, FindOne.
-/
import Derived.Test.YtiohjjgncbhimaaDoorBr
import Derived.Test.YtiohjjgncbhimaaDoorP7
namespace Go.Proofs.YtiohjjgncbhimaaDoor.Pa
open Go Go.Pv Go.Proofs.YtiohjjgncbhimaaDoor.Pu
set_option linter.unusedSimpArgs false
open Lab Lcs Go.Proofs.YtiohjjgncbhimaaDoor Go.RowKit
set_option maxRecDepth 10000
abbrev envU : Env := Pu.envU
theorem tq_int : tdOf Tryd.prog 3 = some ⟨false, 1, [.int .i64 0], .int .i64⟩ := by kernel_rfl
theorem tq_string : tdOf Tryd.prog 9 = some ⟨false, 1, [.str ⟨#[]⟩], .str⟩ := by kernel_rfl
theorem tq_bool : tdOf Tryd.prog 4 = some ⟨false, 1, [.bool false], .bool⟩ := by kernel_rfl
theorem tq_uint8 : tdOf Tryd.prog 5 = some ⟨false, 1, [.int .u8 0], .int .u8⟩ := by kernel_rfl
theorem tq_apiId : tdOf Tryd.prog 23 = some ⟨true, 3, [.int .i64 0, .int .i64 0, .int .i64 0], .struct [(0, 1, false), (1, 1, false), (2, 1, false)]⟩ := by kernel_rfl
theorem tq_apiMark : tdOf Tryd.prog 83 = some ⟨true, 3, [.int .i64 0, .int .i64 0, .int .i64 0], .struct [(0, 1, false), (1, 1, false), (2, 1, false)]⟩ := by kernel_rfl
theorem tq_apiWord : tdOf Tryd.prog 85 = some ⟨true, 4, [.str ⟨#[]⟩, .int .i64 0, .int .i64 0, .int .i64 0], .struct [(0, 1, false), (1, 3, true)]⟩ := by kernel_rfl
theorem tq_apiUnit : tdOf Tryd.prog 27 = some ⟨true, 8, [.int .i64 0, .int .i64 0, .int .i64 0, .int .i64 0, .str ⟨#[]⟩, .nil, .nil, .nil], .struct [(0, 3, true), (3, 1, false), (4, 1, false), (5, 1, false), (6, 1, false), (7, 1, false)]⟩ := by kernel_rfl
theorem tq_s_apiUnit : tdOf Tryd.prog 25 = some ⟨false, 1, [.nil], .slice 27 8 120⟩ := by kernel_rfl
theorem tq_s_apiWord : tdOf Tryd.prog 24 = some ⟨false, 1, [.nil], .slice 85 4 40⟩ := by kernel_rfl
theorem tq_s_apiId : tdOf Tryd.prog 43 = some ⟨false, 1, [.nil], .slice 23 3 24⟩ := by kernel_rfl
theorem tq_apiStep : tdOf Tryd.prog 59 = some ⟨true, 2, [.int .i64 0, .str ⟨#[]⟩], .struct [(0, 1, false), (1, 1, false)]⟩ := by kernel_rfl
theorem tq_s_apiStep : tdOf Tryd.prog 28 = some ⟨false, 1, [.nil], .slice 59 2 24⟩ := by kernel_rfl
theorem tq_apiErrno : tdOf Tryd.prog 38 = some ⟨false, 1, [.int .i64 0], .int .i64⟩ := by kernel_rfl
theorem tq_s_string : tdOf Tryd.prog 29 = some ⟨false, 1, [.nil], .slice 9 1 16⟩ := by kernel_rfl
def tdl : List (TypeId × TD) := [(3, ⟨false, 1, [.int .i64 0], .int .i64⟩), (9, ⟨false, 1, [.str ⟨#[]⟩], .str⟩), (4, ⟨false, 1, [.bool false], .bool⟩), (5, ⟨false, 1, [.int .u8 0], .int .u8⟩), (23, ⟨true, 3, [.int .i64 0, .int .i64 0, .int .i64 0], .struct [(0, 1, false), (1, 1, false), (2, 1, false)]⟩), (83, ⟨true, 3, [.int .i64 0, .int .i64 0, .int .i64 0], .struct [(0, 1, false), (1, 1, false), (2, 1, false)]⟩), (85, ⟨true, 4, [.str ⟨#[]⟩, .int .i64 0, .int .i64 0, .int .i64 0], .struct [(0, 1, false), (1, 3, true)]⟩), (27, ⟨true, 8, [.int .i64 0, .int .i64 0, .int .i64 0, .int .i64 0, .str ⟨#[]⟩, .nil, .nil, .nil], .struct [(0, 3, true), (3, 1, false), (4, 1, false), (5, 1, false), (6, 1, false), (7, 1, false)]⟩), (25, ⟨false, 1, [.nil], .slice 27 8 120⟩), (24, ⟨false, 1, [.nil], .slice 85 4 40⟩), (43, ⟨false, 1, [.nil], .slice 23 3 24⟩), (59, ⟨true, 2, [.int .i64 0, .str ⟨#[]⟩], .struct [(0, 1, false), (1, 1, false)]⟩), (28, ⟨false, 1, [.nil], .slice 59 2 24⟩), (38, ⟨false, 1, [.int .i64 0], .int .i64⟩), (29, ⟨false, 1, [.nil], .slice 9 1 16⟩)]
theorem tdl_ok : AllTd Tryd.prog tdl := ⟨tq_int, tq_string, tq_bool, tq_uint8, tq_apiId, tq_apiMark, tq_apiWord, tq_apiUnit, tq_s_apiUnit, tq_s_apiWord, tq_s_apiId, tq_apiStep, tq_s_apiStep, tq_apiErrno, tq_s_string, trivial⟩
def eqs2 : TypeId → Option (List CK) := fun t => if t = 59 then some [.int .i64, .str] else eqs t
theorem eq_step (d : Nat) (a x : Int) (s t : ByteArray) (w : World) : (Op.equalIn (d + 2) 59 (.agg #[.int .i64 a, .string s]) (.agg #[.int .i64 x, .string t])).run Tryd.prog w = .ok (decide (a = x) && decide (s = t)) w := by
 rw [run_equalIn_struct w (d + 1) 59 _ _ (by kernel_rfl) (by kernel_rfl)]
 simp only [Program.fieldsOf, Tryd.underlying59]
 have hs : (s.toList == t.toList) = decide (s = t) := by
   rw [← beq_toListBytes]
   by_cases h : s = t
   · subst h; simp [beq_toListBytes]
   · simp only [h, decide_false]
     rw [beq_toListBytes, Go.ByteArray.toList_eq, Go.ByteArray.toList_eq]
     simp only [beq_eq_false_iff_ne]
     intro e
     apply h
     cases s; cases t
     simp_all
 by_cases h1 : a = x <;> by_cases h2 : s = t
 all_goals simp [Op.eqFields, part, agg_int, agg_str, run_equalIn_int _ _ _ _ _ _ _ und_int, run_equalIn_string _ _ _ _ _ und_str, hs, h1, h2]
theorem eqs2_ok : EqsOK Tryd.prog eqs2 := by
 intro t ks h w x y is js xs ys Q h1 h2 h3 h4
 unfold eqs2 at h
 split at h
 · rename_i ht
   simp only [Option.some.injEq] at h
   subst h
   subst ht
   obtain ⟨a, _, rfl, ph11⟩ := shape_int h1
   obtain ⟨s, _, rfl, ph12⟩ := shape_str ph11
   obtain ⟨b, _, rfl, ph21⟩ := shape_int h2
   obtain ⟨t, _, rfl, ph22⟩ := shape_str ph21
   obtain rfl := shape_nil ph12
   obtain rfl := shape_nil ph22
   simp only [RepC, RepI] at h3 h4
   obtain ⟨_, _, rfl, _, rfl, _, _, rfl, _, rfl, rfl⟩ := h3
   obtain ⟨_, _, rfl, _, rfl, _, _, rfl, _, rfl, rfl⟩ := h4
   refine ⟨run_eqGuard_agg w _ _ _ _ _ _ (by kernel_rfl), run_eqGuard_agg w _ _ _ _ _ _ (by kernel_rfl), ?_⟩
   have := eq_step 9998 a b s t w
   simpa [Op.equal, Op.maxDepth, eqC] using this
 · exact eqs_ok t ks h w x y is js xs ys Q h1 h2 h3 h4
def tbh2 (fr : Nat → List Nat) (hk : Nat → Bool) : Tb := ⟨Pv.look tdl, eqs2, fun _ => none, fr, hk, fun _ => 0⟩
abbrev tbf (fr : Nat → List Nat) : Tb := tbh2 fr fun _ => false
abbrev tbk (hk : Nat → Bool) : Tb := tbh2 (fun _ => []) hk
def tb0 : Tb := tbf fun _ => []
theorem tb_ok {fr : Nat → List Nat} {hk : Nat → Bool} : ∀ t d, (tbh2 fr hk).td t = some d → tdOf Tryd.prog t = some d := Pv.look_ok tdl_ok
structure Stp where
 kind : Int
 label : Str
 deriving DecidableEq
def spl (s : Stp) : List IV := [.int .i64 s.kind, .str s.label]
def spv (s : Stp) : IV := .agg (spl s)
def ustep (u : Ut) : Stp := ⟨u.kind, u.label⟩
def bookB (s : Stp) : Bool := decide (s.kind = 0) && decide (s.label = ⟨#[]⟩)
def stepB (s : Stp) : Bool := decide (1 ≤ s.kind) && (decide (s.kind ≤ 7) && mayL s.label.data.toList)
def shortS (s : Stp) : Prop := s.label.size ≤ 1000000
theorem PC.up {X Y : Env} {f : FuncId} {args res : List IV} (hg : ∀ g, X.gl g = none) (hR : ∀ w, Y.R w → X.R w) (h : PC Tryd.prog X f args res) : PC Tryd.prog Y f args res :=
 ⟨h.1, fun Q w vs hQ _ hX hvs => h.2 Q w vs hQ (fun _ _ e => by rw [hg] at e; cases e) (hR w hX) hvs⟩
theorem one_str {Q : Nat → Prop} {w : World} {s : ByteArray} {vs : List Value} (h : RepIs Q w [.str s] vs) : vs = [.string s] := by
 unfold RepIs at h
 obtain ⟨v, r, rfl, h1, h2⟩ := h
 unfold RepIs at h2
 unfold RepI at h1
 subst h1
 subst h2
 rfl
theorem lvalid_pc (s : Str) (hs : s.size ≤ 1000000) : PC Tryd.prog envU 73 [.str s] [.bool (mayL s.data.toList)] :=
 lift_bool (enters_of Tryd.func73 rfl rfl) fun Q w vs hQ hR hvs => by
   rw [one_str hvs]
   exact valid_any s w hR hs
theorem lmay_pc (s : Str) (hs : s.size ≤ 1000000) : PC Tryd.prog envU 55 [.str s] [.bool (mayL s.data.toList)] :=
 lift_bool (enters_of Tryd.func55 rfl rfl) fun Q w vs hQ hR hvs => by
   rw [one_str hvs]
   refine (may_any s w hs).mono ?_
   rintro e w' ⟨rfl, rfl⟩
   exact ⟨rfl, Below.refl _ _⟩
theorem step_eq {a b : Stp} (h : a = b) : eqC [.int .i64 a.kind, .str a.label] [.int .i64 b.kind, .str b.label] = true := by
 subst h; simp [eqC]
theorem step_ne {a b : Stp} (h : a ≠ b) : ¬ eqC [.int .i64 a.kind, .str a.label] [.int .i64 b.kind, .str b.label] = true := by
 intro e
 apply h
 cases a; cases b
 simpa [eqC] using e
theorem bookB_eq (s : Stp) : bookB s = decide (s = ⟨0, ⟨#[]⟩⟩) := by
 cases s
 simp [bookB]
theorem isBook_pc (s : Stp) : PC Tryd.prog envU 65 [spv s] [.bool (bookB s)] := by
 rw [bookB_eq]
 unfold spv spl
 by_cases h : s = ⟨0, ⟨#[]⟩⟩
 · have hi := step_eq h
   rw [decide_eq_true h]
   refine PC.of_va (T := tb0) eqs2_ok tb_ok rfl mixed Tryd.func65 rfl rfl (Nat.le_of_ble_eq_true rfl) ?_; intro Γ C WK LP fin h0 hW hC hB hR hLP hfin
   (try (conv => whnf)); (repeat ((first | (with_reducible refine Fork.T (fun hc => ?_) ?_); (exfalso; first | omega | (simp [eqC, cellsI, idv, idl] at hc; first | done | omega) | contradiction) | (with_reducible refine Fork.F (fun hc => ?_) ?_); (exfalso; first | omega | (simp [eqC, cellsI, idv, idl] at hc; first | done | omega) | contradiction) | (with_reducible refine Owe.mk ?_ ?_); (first | omega | (unfold most; omega) | decide +kernel | exact Nat.le_of_ble_eq_true rfl | assumption | (simp [most]; omega)) | (with_reducible intro z hz); (first | (replace hz := hz (by omega); subst hz) | subst hz)); (try (conv => whnf))))
   exact hfin _ (ILes.refl _)
 · have hi := step_ne h
   rw [decide_eq_false h]
   refine PC.of_va (T := tb0) eqs2_ok tb_ok rfl mixed Tryd.func65 rfl rfl (Nat.le_of_ble_eq_true rfl) ?_; intro Γ C WK LP fin h0 hW hC hB hR hLP hfin
   (try (conv => whnf)); (repeat ((first | (with_reducible refine Fork.T (fun hc => ?_) ?_); (exfalso; first | omega | (simp [eqC, cellsI, idv, idl] at hc; first | done | omega) | contradiction) | (with_reducible refine Fork.F (fun hc => ?_) ?_); (exfalso; first | omega | (simp [eqC, cellsI, idv, idl] at hc; first | done | omega) | contradiction) | (with_reducible refine Owe.mk ?_ ?_); (first | omega | (unfold most; omega) | decide +kernel | exact Nat.le_of_ble_eq_true rfl | assumption | (simp [most]; omega)) | (with_reducible intro z hz); (first | (replace hz := hz (by omega); subst hz) | subst hz)); (try (conv => whnf))))
   exact hfin _ (ILes.refl _)
theorem rbook_pc (s : Stp) : PC Tryd.prog envU 37 [spv s] [.bool (bookB s)] := by
 unfold spv spl bookB
 by_cases h : s.kind = 0 <;> by_cases h2 : s.label = ⟨#[]⟩ <;> simp only [h, h2, decide_true, decide_false, Bool.and_true, Bool.and_false]
 all_goals
   refine PC.of_va (T := tb0) eqs2_ok tb_ok rfl mixed Tryd.func37 rfl rfl (Nat.le_of_ble_eq_true rfl) ?_; intro Γ C WK LP fin h0 hW hC hB hR hLP hfin
   (try (conv => whnf)); (repeat ((first | (with_reducible refine Fork.T (fun hc => ?_) ?_); (exfalso; first | omega | (simp [eqC, cellsI, idv, idl] at hc; first | done | omega) | contradiction) | (with_reducible refine Fork.F (fun hc => ?_) ?_); (exfalso; first | omega | (simp [eqC, cellsI, idv, idl] at hc; first | done | omega) | contradiction) | (with_reducible refine Owe.mk ?_ ?_); (first | omega | (unfold most; omega) | decide +kernel | exact Nat.le_of_ble_eq_true rfl | assumption | (simp [most]; omega)) | (with_reducible intro z hz); (first | (replace hz := hz (by omega); subst hz) | subst hz)); (try (conv => whnf))))
   exact hfin _ (ILes.refl _)
theorem stepOf_pc (u : Ut) : PC Tryd.prog envU 68 [uv u] [spv (ustep u)] := by
 rw [uv_eq]
 refine PC.of_va (T := tb0) eqs2_ok tb_ok rfl mixed Tryd.func68 rfl rfl (Nat.le_of_ble_eq_true rfl) ?_; intro Γ C WK LP fin h0 hW hC hB hR hLP hfin
 (try (conv => whnf)); (repeat ((first | (with_reducible refine Fork.T (fun hc => ?_) ?_); (exfalso; first | omega | (simp [eqC, cellsI, idv, idl] at hc; first | done | omega) | contradiction) | (with_reducible refine Fork.F (fun hc => ?_) ?_); (exfalso; first | omega | (simp [eqC, cellsI, idv, idl] at hc; first | done | omega) | contradiction) | (with_reducible refine Owe.mk ?_ ?_); (first | omega | (unfold most; omega) | decide +kernel | exact Nat.le_of_ble_eq_true rfl | assumption | (simp [most]; omega)) | (with_reducible intro z hz); (first | (replace hz := hz (by omega); subst hz) | subst hz)); (try (conv => whnf))))
 exact hfin _ (ILes.refl _)
theorem at_pc (u : Ut) (s : Stp) : PC Tryd.prog envU 39 [uv u, spv s] [.bool (decide ((ustep u) = s))] := by
 rw [uv_eq]
 unfold spv spl
 have hd : decide ((ustep u) = s) = (decide (u.kind = s.kind) && decide (u.label = s.label)) := by
   cases s
   simp [ustep]
 rw [hd]
 by_cases h : u.kind = s.kind <;> by_cases h2 : u.label = s.label <;> simp only [decide_eq_true, decide_eq_false, h, h2, decide_true, decide_false, not_false_eq_true, Bool.and_true, Bool.and_false]
 all_goals
   refine PC.of_va (T := tb0) eqs2_ok tb_ok rfl mixed Tryd.func39 rfl rfl (Nat.le_of_ble_eq_true rfl) ?_; intro Γ C WK LP fin h0 hW hC hB hR hLP hfin
   (try (conv => whnf)); (repeat ((first | (with_reducible refine Fork.T (fun hc => ?_) ?_); (exfalso; first | omega | (simp [eqC, cellsI, idv, idl] at hc; first | done | omega) | contradiction) | (with_reducible refine Fork.F (fun hc => ?_) ?_); (exfalso; first | omega | (simp [eqC, cellsI, idv, idl] at hc; first | done | omega) | contradiction) | (with_reducible refine Owe.mk ?_ ?_); (first | omega | (unfold most; omega) | decide +kernel | exact Nat.le_of_ble_eq_true rfl | assumption | (simp [most]; omega)) | (with_reducible intro z hz); (first | (replace hz := hz (by omega); subst hz) | subst hz)); (try (conv => whnf))))
   exact hfin _ (ILes.refl _)
end Go.Proofs.YtiohjjgncbhimaaDoor.Pa
namespace Go.Proofs.YtiohjjgncbhimaaDoor.Pa
open Go Go.Pv Go.Proofs.YtiohjjgncbhimaaDoor.Pu
set_option linter.unusedSimpArgs false
open Lab Lcs Go.Proofs.YtiohjjgncbhimaaDoor Go.RowKit
set_option maxRecDepth 10000
set_option maxHeartbeats 8000000
def okAt (i : Nat) (s : Stp) : Bool := stepB s || (decide (i = 0) && bookB s)
def preA (p : List Stp) (k : Nat) : Prop := ∀ i s, i < k → p[i]? = some s → okAt i s = true
def mayP (p : List Stp) : Prop := p.length ≤ 9 ∧ preA p p.length
noncomputable def mayA (p : List Stp) : Bool := @decide (mayP p) (Classical.propDecidable _)
theorem mayA_true {p : List Stp} (h : mayP p) : mayA p = true := by unfold mayA; exact @decide_eq_true _ (Classical.propDecidable _) h
theorem mayA_false {p : List Stp} (h : ¬ mayP p) : mayA p = false := by unfold mayA; exact @decide_eq_false _ (Classical.propDecidable _) h
theorem mayA_iff {p : List Stp} : mayA p = true ↔ mayP p := by unfold mayA; exact @decide_eq_true_iff _ (Classical.propDecidable _)
theorem pre_zero (p : List Stp) : preA p 0 := fun i _ h => absurd h (Nat.not_lt_zero i)
theorem pre_step {p : List Stp} {k : Nat} {s : Stp} (h : preA p k) (hx : p[k]? = some s) (ho : okAt k s = true) : preA p (k + 1) := fun i t hi ht => by
 rcases Nat.lt_succ_iff_lt_or_eq.1 hi with h1 | rfl
 · exact h i t h1 ht
 · rw [hx] at ht
   cases ht
   exact ho
theorem may_not {p : List Stp} {k : Nat} {s : Stp} (hx : p[k]? = some s) (ho : okAt k s = false) : mayA p = false :=
 mayA_false fun h => by rw [h.2 k s (List.getElem?_eq_some_iff.1 hx).1 hx] at ho; cases ho
theorem vstep_pc (s : Stp) (hs : shortS s) : PC Tryd.prog envU 64 [spv s] [.bool (stepB s)] := by
 have hV := lvalid_pc s.label hs
 unfold spv spl stepB
 by_cases h : 1 ≤ s.kind
 · by_cases h2 : s.kind ≤ 7
   · rw [decide_eq_true h, decide_eq_true h2]
     refine PC.of_va (T := tb0) eqs2_ok tb_ok rfl mixed Tryd.func64 rfl rfl (Nat.le_of_ble_eq_true rfl) ?_; intro Γ C WK LP fin h0 hW hC hB hR hLP hfin
     (try (conv => whnf)); (repeat ((first | (with_reducible refine Fork.T (fun hc => ?_) ?_); (exfalso; first | omega | (simp [eqC, cellsI, idv, idl] at hc; first | done | omega) | contradiction) | (with_reducible refine Fork.F (fun hc => ?_) ?_); (exfalso; first | omega | (simp [eqC, cellsI, idv, idl] at hc; first | done | omega) | contradiction) | (with_reducible refine Owe.mk ?_ ?_); (first | omega | (unfold most; omega) | decide +kernel | exact Nat.le_of_ble_eq_true rfl | assumption | (simp [most]; omega)) | (with_reducible intro z hz); (first | (replace hz := hz (by omega); subst hz) | subst hz)); (try (conv => whnf))))
     refine CallV.mk _ (hC _ _ _ (PCw.of (hV))) (fun js hjs => ?_); subst hjs
     (try (conv => whnf)); (repeat ((first | (with_reducible refine Fork.T (fun hc => ?_) ?_); (exfalso; first | omega | (simp [eqC, cellsI, idv, idl] at hc; first | done | omega) | contradiction) | (with_reducible refine Fork.F (fun hc => ?_) ?_); (exfalso; first | omega | (simp [eqC, cellsI, idv, idl] at hc; first | done | omega) | contradiction) | (with_reducible refine Owe.mk ?_ ?_); (first | omega | (unfold most; omega) | decide +kernel | exact Nat.le_of_ble_eq_true rfl | assumption | (simp [most]; omega)) | (with_reducible intro z hz); (first | (replace hz := hz (by omega); subst hz) | subst hz)); (try (conv => whnf))))
     exact hfin _ (ILes.refl _)
   · rw [decide_eq_true h, decide_eq_false h2]
     refine PC.of_va (T := tb0) eqs2_ok tb_ok rfl mixed Tryd.func64 rfl rfl (Nat.le_of_ble_eq_true rfl) ?_; intro Γ C WK LP fin h0 hW hC hB hR hLP hfin
     (try (conv => whnf)); (repeat ((first | (with_reducible refine Fork.T (fun hc => ?_) ?_); (exfalso; first | omega | (simp [eqC, cellsI, idv, idl] at hc; first | done | omega) | contradiction) | (with_reducible refine Fork.F (fun hc => ?_) ?_); (exfalso; first | omega | (simp [eqC, cellsI, idv, idl] at hc; first | done | omega) | contradiction) | (with_reducible refine Owe.mk ?_ ?_); (first | omega | (unfold most; omega) | decide +kernel | exact Nat.le_of_ble_eq_true rfl | assumption | (simp [most]; omega)) | (with_reducible intro z hz); (first | (replace hz := hz (by omega); subst hz) | subst hz)); (try (conv => whnf))))
     exact hfin _ (ILes.refl _)
 · rw [decide_eq_false h]
   refine PC.of_va (T := tb0) eqs2_ok tb_ok rfl mixed Tryd.func64 rfl rfl (Nat.le_of_ble_eq_true rfl) ?_; intro Γ C WK LP fin h0 hW hC hB hR hLP hfin
   (try (conv => whnf)); (repeat ((first | (with_reducible refine Fork.T (fun hc => ?_) ?_); (exfalso; first | omega | (simp [eqC, cellsI, idv, idl] at hc; first | done | omega) | contradiction) | (with_reducible refine Fork.F (fun hc => ?_) ?_); (exfalso; first | omega | (simp [eqC, cellsI, idv, idl] at hc; first | done | omega) | contradiction) | (with_reducible refine Owe.mk ?_ ?_); (first | omega | (unfold most; omega) | decide +kernel | exact Nat.le_of_ble_eq_true rfl | assumption | (simp [most]; omega)) | (with_reducible intro z hz); (first | (replace hz := hz (by omega); subst hz) | subst hz)); (try (conv => whnf))))
   exact hfin _ (ILes.refl _)
theorem avalid_pc (p : List Stp) (hp : ∀ s ∈ p, shortS s) : PC Tryd.prog envU 52 [.sl 2 (p.map spv)] [.bool (mayA p)] := by
 have hml : (p.map spv).length = p.length := List.length_map _
 by_cases hl : 9 < p.length
 · rw [mayA_false (fun h => by have := h.1; omega)]
   refine PC.of_va (T := tb0) eqs2_ok tb_ok rfl mixed Tryd.func52 rfl rfl (Nat.le_of_ble_eq_true rfl) ?_; intro Γ C WK LP fin h0 hW hC hB hR hLP hfin
   (try (conv => whnf)); (repeat ((first | (with_reducible refine Fork.T (fun hc => ?_) ?_); (exfalso; first | omega | (simp [eqC, cellsI, idv, idl] at hc; first | done | omega) | contradiction) | (with_reducible refine Fork.F (fun hc => ?_) ?_); (exfalso; first | omega | (simp [eqC, cellsI, idv, idl] at hc; first | done | omega) | contradiction) | (with_reducible refine Owe.mk ?_ ?_); (first | omega | (unfold most; omega) | decide +kernel | exact Nat.le_of_ble_eq_true rfl | assumption | (simp [most]; omega)) | (with_reducible intro z hz); (first | (replace hz := hz (by omega); subst hz) | subst hz)); (try (conv => whnf))))
   exact hfin _ (ILes.refl _)
 refine PC.of_va (T := tb0) eqs2_ok tb_ok rfl mixed Tryd.func52 rfl rfl (Nat.le_of_ble_eq_true rfl) ?_; intro Γ C WK LP fin h0 hW hC hB hR hLP hfin
 (try (conv => whnf)); (repeat ((first | (with_reducible refine Fork.T (fun hc => ?_) ?_); (exfalso; first | omega | (simp [eqC, cellsI, idv, idl] at hc; first | done | omega) | contradiction) | (with_reducible refine Fork.F (fun hc => ?_) ?_); (exfalso; first | omega | (simp [eqC, cellsI, idv, idl] at hc; first | done | omega) | contradiction) | (with_reducible refine Owe.mk ?_ ?_); (first | omega | (unfold most; omega) | decide +kernel | exact Nat.le_of_ble_eq_true rfl | assumption | (simp [most]; omega)) | (with_reducible intro z hz); (first | (replace hz := hz (by omega); subst hz) | subst hz)); (try (conv => whnf))))
 refine hLP _ _ _ Nat (fun k => ⟨[(8, .imm (.sl 2 (p.map spv))), (9, .imm (.int .i64 (p.length : Nat))), (10, .imm (.int .i64 (k : Nat)))], []⟩) (fun k => k ≤ p.length ∧ preA p k) (fun k => p.length - k) 0 ⟨Nat.zero_le _, pre_zero p⟩ (WeakA.slots 0 (by first | omega | (rw [h0]; exact Nat.le_of_ble_eq_true rfl)) rfl rfl (by first | (simp only [List.all_cons, List.all_nil, blkBelow, belowL_imm, belowL, belowB, Bool.and_true, Bool.true_and]; first | done | decide) | rfl | simp [blkBelow, belowB, belowL, belowL_imm]) (by (repeat ((conv => whnf); first | exact trivial | refine And.intro (by first | exact WkOne.any | exact WkOne.eq (by with_reducible rfl) rfl | exact WkOne.int (by first | omega | (simp; first | done | omega)) | exact WkOne.eq rfl rfl | exact WkOne.le rfl (ILe.nil _)) ?_)))) ?_
 rintro k ⟨hk, hpre⟩
 by_cases hlt : k < p.length
 · obtain ⟨s, hx⟩ : ∃ s, p[k]? = some s := ⟨p[k], List.getElem?_eq_getElem hlt⟩
   have hV := vstep_pc s (hp s (List.mem_of_getElem? hx))
   cases hb : stepB s with
   | true =>
     rw [hb] at hV
     (try (conv => whnf)); (repeat ((first | (with_reducible refine Fork.T (fun hc => ?_) ?_); (exfalso; first | omega | (simp [eqC, cellsI, idv, idl] at hc; first | done | omega) | contradiction) | (with_reducible refine Fork.F (fun hc => ?_) ?_); (exfalso; first | omega | (simp [eqC, cellsI, idv, idl] at hc; first | done | omega) | contradiction) | (with_reducible refine Owe.mk ?_ ?_); (first | omega | (unfold most; omega) | decide +kernel | exact Nat.le_of_ble_eq_true rfl | assumption | (simp [most]; omega)) | (with_reducible intro z hz); (first | (replace hz := hz (by omega); subst hz) | subst hz)); (try (conv => whnf))))
     refine Idx.mk k (spv s) _ rfl (by simp [hx]) rfl ?_
     (try (conv => whnf)); (repeat ((first | (with_reducible refine Fork.T (fun hc => ?_) ?_); (exfalso; first | omega | (simp [eqC, cellsI, idv, idl] at hc; first | done | omega) | contradiction) | (with_reducible refine Fork.F (fun hc => ?_) ?_); (exfalso; first | omega | (simp [eqC, cellsI, idv, idl] at hc; first | done | omega) | contradiction) | (with_reducible refine Owe.mk ?_ ?_); (first | omega | (unfold most; omega) | decide +kernel | exact Nat.le_of_ble_eq_true rfl | assumption | (simp [most]; omega)) | (with_reducible intro z hz); (first | (replace hz := hz (by omega); subst hz) | subst hz)); (try (conv => whnf))))
     refine CallV.mk _ (hC _ _ _ (PCw.of (hV))) (fun js hjs => ?_); subst hjs
     (try (conv => whnf)); (repeat ((first | (with_reducible refine Fork.T (fun hc => ?_) ?_); (exfalso; first | omega | (simp [eqC, cellsI, idv, idl] at hc; first | done | omega) | contradiction) | (with_reducible refine Fork.F (fun hc => ?_) ?_); (exfalso; first | omega | (simp [eqC, cellsI, idv, idl] at hc; first | done | omega) | contradiction) | (with_reducible refine Owe.mk ?_ ?_); (first | omega | (unfold most; omega) | decide +kernel | exact Nat.le_of_ble_eq_true rfl | assumption | (simp [most]; omega)) | (with_reducible intro z hz); (first | (replace hz := hz (by omega); subst hz) | subst hz)); (try (conv => whnf))))
     exact ⟨k + 1, ⟨by omega, pre_step hpre hx (by simp [okAt, hb])⟩, by dsimp only; omega, (WeakA.slots 0 (by first | omega | (rw [h0]; exact Nat.le_of_ble_eq_true rfl)) rfl rfl (by first | (simp only [List.all_cons, List.all_nil, blkBelow, belowL_imm, belowL, belowB, Bool.and_true, Bool.true_and]; first | done | decide) | rfl | simp [blkBelow, belowB, belowL, belowL_imm]) (by (repeat ((conv => whnf); first | exact trivial | refine And.intro (by first | exact WkOne.any | exact WkOne.eq (by with_reducible rfl) rfl | exact WkOne.int (by first | omega | (simp; first | done | omega)) | exact WkOne.eq rfl rfl | exact WkOne.le rfl (ILe.nil _)) ?_))))⟩
   | false =>
     rw [hb] at hV
     by_cases hk0 : k = 0
     · have hB := isBook_pc s
       cases hbb : bookB s with
       | true =>
         rw [hbb] at hB
         (try (conv => whnf)); (repeat ((first | (with_reducible refine Fork.T (fun hc => ?_) ?_); (exfalso; first | omega | (simp [eqC, cellsI, idv, idl] at hc; first | done | omega) | contradiction) | (with_reducible refine Fork.F (fun hc => ?_) ?_); (exfalso; first | omega | (simp [eqC, cellsI, idv, idl] at hc; first | done | omega) | contradiction) | (with_reducible refine Owe.mk ?_ ?_); (first | omega | (unfold most; omega) | decide +kernel | exact Nat.le_of_ble_eq_true rfl | assumption | (simp [most]; omega)) | (with_reducible intro z hz); (first | (replace hz := hz (by omega); subst hz) | subst hz)); (try (conv => whnf))))
         refine Idx.mk k (spv s) _ rfl (by simp [hx]) rfl ?_
         (try (conv => whnf)); (repeat ((first | (with_reducible refine Fork.T (fun hc => ?_) ?_); (exfalso; first | omega | (simp [eqC, cellsI, idv, idl] at hc; first | done | omega) | contradiction) | (with_reducible refine Fork.F (fun hc => ?_) ?_); (exfalso; first | omega | (simp [eqC, cellsI, idv, idl] at hc; first | done | omega) | contradiction) | (with_reducible refine Owe.mk ?_ ?_); (first | omega | (unfold most; omega) | decide +kernel | exact Nat.le_of_ble_eq_true rfl | assumption | (simp [most]; omega)) | (with_reducible intro z hz); (first | (replace hz := hz (by omega); subst hz) | subst hz)); (try (conv => whnf))))
         refine CallV.mk _ (hC _ _ _ (PCw.of (hV))) (fun js hjs => ?_); subst hjs
         (try (conv => whnf)); (repeat ((first | (with_reducible refine Fork.T (fun hc => ?_) ?_); (exfalso; first | omega | (simp [eqC, cellsI, idv, idl] at hc; first | done | omega) | contradiction) | (with_reducible refine Fork.F (fun hc => ?_) ?_); (exfalso; first | omega | (simp [eqC, cellsI, idv, idl] at hc; first | done | omega) | contradiction) | (with_reducible refine Owe.mk ?_ ?_); (first | omega | (unfold most; omega) | decide +kernel | exact Nat.le_of_ble_eq_true rfl | assumption | (simp [most]; omega)) | (with_reducible intro z hz); (first | (replace hz := hz (by omega); subst hz) | subst hz)); (try (conv => whnf))))
         refine CallV.mk _ (hC _ _ _ (PCw.of (hB))) (fun js hjs => ?_); subst hjs
         (try (conv => whnf)); (repeat ((first | (with_reducible refine Fork.T (fun hc => ?_) ?_); (exfalso; first | omega | (simp [eqC, cellsI, idv, idl] at hc; first | done | omega) | contradiction) | (with_reducible refine Fork.F (fun hc => ?_) ?_); (exfalso; first | omega | (simp [eqC, cellsI, idv, idl] at hc; first | done | omega) | contradiction) | (with_reducible refine Owe.mk ?_ ?_); (first | omega | (unfold most; omega) | decide +kernel | exact Nat.le_of_ble_eq_true rfl | assumption | (simp [most]; omega)) | (with_reducible intro z hz); (first | (replace hz := hz (by omega); subst hz) | subst hz)); (try (conv => whnf))))
         exact ⟨k + 1, ⟨by omega, pre_step hpre hx (by simp [okAt, hk0, hbb])⟩, by dsimp only; omega, (WeakA.slots 0 (by first | omega | (rw [h0]; exact Nat.le_of_ble_eq_true rfl)) rfl rfl (by first | (simp only [List.all_cons, List.all_nil, blkBelow, belowL_imm, belowL, belowB, Bool.and_true, Bool.true_and]; first | done | decide) | rfl | simp [blkBelow, belowB, belowL, belowL_imm]) (by (repeat ((conv => whnf); first | exact trivial | refine And.intro (by first | exact WkOne.any | exact WkOne.eq (by with_reducible rfl) rfl | exact WkOne.int (by first | omega | (simp; first | done | omega)) | exact WkOne.eq rfl rfl | exact WkOne.le rfl (ILe.nil _)) ?_))))⟩
       | false =>
         rw [hbb] at hB
         (try (conv => whnf)); (repeat ((first | (with_reducible refine Fork.T (fun hc => ?_) ?_); (exfalso; first | omega | (simp [eqC, cellsI, idv, idl] at hc; first | done | omega) | contradiction) | (with_reducible refine Fork.F (fun hc => ?_) ?_); (exfalso; first | omega | (simp [eqC, cellsI, idv, idl] at hc; first | done | omega) | contradiction) | (with_reducible refine Owe.mk ?_ ?_); (first | omega | (unfold most; omega) | decide +kernel | exact Nat.le_of_ble_eq_true rfl | assumption | (simp [most]; omega)) | (with_reducible intro z hz); (first | (replace hz := hz (by omega); subst hz) | subst hz)); (try (conv => whnf))))
         refine Idx.mk k (spv s) _ rfl (by simp [hx]) rfl ?_
         (try (conv => whnf)); (repeat ((first | (with_reducible refine Fork.T (fun hc => ?_) ?_); (exfalso; first | omega | (simp [eqC, cellsI, idv, idl] at hc; first | done | omega) | contradiction) | (with_reducible refine Fork.F (fun hc => ?_) ?_); (exfalso; first | omega | (simp [eqC, cellsI, idv, idl] at hc; first | done | omega) | contradiction) | (with_reducible refine Owe.mk ?_ ?_); (first | omega | (unfold most; omega) | decide +kernel | exact Nat.le_of_ble_eq_true rfl | assumption | (simp [most]; omega)) | (with_reducible intro z hz); (first | (replace hz := hz (by omega); subst hz) | subst hz)); (try (conv => whnf))))
         refine CallV.mk _ (hC _ _ _ (PCw.of (hV))) (fun js hjs => ?_); subst hjs
         (try (conv => whnf)); (repeat ((first | (with_reducible refine Fork.T (fun hc => ?_) ?_); (exfalso; first | omega | (simp [eqC, cellsI, idv, idl] at hc; first | done | omega) | contradiction) | (with_reducible refine Fork.F (fun hc => ?_) ?_); (exfalso; first | omega | (simp [eqC, cellsI, idv, idl] at hc; first | done | omega) | contradiction) | (with_reducible refine Owe.mk ?_ ?_); (first | omega | (unfold most; omega) | decide +kernel | exact Nat.le_of_ble_eq_true rfl | assumption | (simp [most]; omega)) | (with_reducible intro z hz); (first | (replace hz := hz (by omega); subst hz) | subst hz)); (try (conv => whnf))))
         refine CallV.mk _ (hC _ _ _ (PCw.of (hB))) (fun js hjs => ?_); subst hjs
         (try (conv => whnf)); (repeat ((first | (with_reducible refine Fork.T (fun hc => ?_) ?_); (exfalso; first | omega | (simp [eqC, cellsI, idv, idl] at hc; first | done | omega) | contradiction) | (with_reducible refine Fork.F (fun hc => ?_) ?_); (exfalso; first | omega | (simp [eqC, cellsI, idv, idl] at hc; first | done | omega) | contradiction) | (with_reducible refine Owe.mk ?_ ?_); (first | omega | (unfold most; omega) | decide +kernel | exact Nat.le_of_ble_eq_true rfl | assumption | (simp [most]; omega)) | (with_reducible intro z hz); (first | (replace hz := hz (by omega); subst hz) | subst hz)); (try (conv => whnf))))
         rw [may_not hx (by simp [okAt, hb, hbb])] at hfin
         exact hfin _ (ILes.refl _)
     · (try (conv => whnf)); (repeat ((first | (with_reducible refine Fork.T (fun hc => ?_) ?_); (exfalso; first | omega | (simp [eqC, cellsI, idv, idl] at hc; first | done | omega) | contradiction) | (with_reducible refine Fork.F (fun hc => ?_) ?_); (exfalso; first | omega | (simp [eqC, cellsI, idv, idl] at hc; first | done | omega) | contradiction) | (with_reducible refine Owe.mk ?_ ?_); (first | omega | (unfold most; omega) | decide +kernel | exact Nat.le_of_ble_eq_true rfl | assumption | (simp [most]; omega)) | (with_reducible intro z hz); (first | (replace hz := hz (by omega); subst hz) | subst hz)); (try (conv => whnf))))
       refine Idx.mk k (spv s) _ rfl (by simp [hx]) rfl ?_
       (try (conv => whnf)); (repeat ((first | (with_reducible refine Fork.T (fun hc => ?_) ?_); (exfalso; first | omega | (simp [eqC, cellsI, idv, idl] at hc; first | done | omega) | contradiction) | (with_reducible refine Fork.F (fun hc => ?_) ?_); (exfalso; first | omega | (simp [eqC, cellsI, idv, idl] at hc; first | done | omega) | contradiction) | (with_reducible refine Owe.mk ?_ ?_); (first | omega | (unfold most; omega) | decide +kernel | exact Nat.le_of_ble_eq_true rfl | assumption | (simp [most]; omega)) | (with_reducible intro z hz); (first | (replace hz := hz (by omega); subst hz) | subst hz)); (try (conv => whnf))))
       refine CallV.mk _ (hC _ _ _ (PCw.of (hV))) (fun js hjs => ?_); subst hjs
       (try (conv => whnf)); (repeat ((first | (with_reducible refine Fork.T (fun hc => ?_) ?_); (exfalso; first | omega | (simp [eqC, cellsI, idv, idl] at hc; first | done | omega) | contradiction) | (with_reducible refine Fork.F (fun hc => ?_) ?_); (exfalso; first | omega | (simp [eqC, cellsI, idv, idl] at hc; first | done | omega) | contradiction) | (with_reducible refine Owe.mk ?_ ?_); (first | omega | (unfold most; omega) | decide +kernel | exact Nat.le_of_ble_eq_true rfl | assumption | (simp [most]; omega)) | (with_reducible intro z hz); (first | (replace hz := hz (by omega); subst hz) | subst hz)); (try (conv => whnf))))
       rw [may_not hx (by simp [okAt, hb, hk0])] at hfin
       exact hfin _ (ILes.refl _)
 · (try (conv => whnf)); (repeat ((first | (with_reducible refine Fork.T (fun hc => ?_) ?_); (exfalso; first | omega | (simp [eqC, cellsI, idv, idl] at hc; first | done | omega) | contradiction) | (with_reducible refine Fork.F (fun hc => ?_) ?_); (exfalso; first | omega | (simp [eqC, cellsI, idv, idl] at hc; first | done | omega) | contradiction) | (with_reducible refine Owe.mk ?_ ?_); (first | omega | (unfold most; omega) | decide +kernel | exact Nat.le_of_ble_eq_true rfl | assumption | (simp [most]; omega)) | (with_reducible intro z hz); (first | (replace hz := hz (by omega); subst hz) | subst hz)); (try (conv => whnf))))
   obtain rfl : k = p.length := by omega
   rw [mayA_true ⟨by omega, hpre⟩] at hfin
   exact hfin _ (ILes.refl _)
theorem rmay_pc (p : List Stp) (hp : ∀ s ∈ p, shortS s) : PC Tryd.prog envU 36 [.sl 2 (p.map spv)] [.bool (mayA p)] := by
 have hml : (p.map spv).length = p.length := List.length_map _
 by_cases hl : 9 < p.length
 · rw [mayA_false (fun h => by have := h.1; omega)]
   refine PC.of_va (T := tb0) eqs2_ok tb_ok rfl mixed Tryd.func36 rfl rfl (Nat.le_of_ble_eq_true rfl) ?_; intro Γ C WK LP fin h0 hW hC hB hR hLP hfin
   (try (conv => whnf)); (repeat ((first | (with_reducible refine Fork.T (fun hc => ?_) ?_); (exfalso; first | omega | (simp [eqC, cellsI, idv, idl] at hc; first | done | omega) | contradiction) | (with_reducible refine Fork.F (fun hc => ?_) ?_); (exfalso; first | omega | (simp [eqC, cellsI, idv, idl] at hc; first | done | omega) | contradiction) | (with_reducible refine Owe.mk ?_ ?_); (first | omega | (unfold most; omega) | decide +kernel | exact Nat.le_of_ble_eq_true rfl | assumption | (simp [most]; omega)) | (with_reducible intro z hz); (first | (replace hz := hz (by omega); subst hz) | subst hz)); (try (conv => whnf))))
   exact hfin _ (ILes.refl _)
 refine PC.of_va (T := tb0) eqs2_ok tb_ok rfl mixed Tryd.func36 rfl rfl (Nat.le_of_ble_eq_true rfl) ?_; intro Γ C WK LP fin h0 hW hC hB hR hLP hfin
 (try (conv => whnf)); (repeat ((first | (with_reducible refine Fork.T (fun hc => ?_) ?_); (exfalso; first | omega | (simp [eqC, cellsI, idv, idl] at hc; first | done | omega) | contradiction) | (with_reducible refine Fork.F (fun hc => ?_) ?_); (exfalso; first | omega | (simp [eqC, cellsI, idv, idl] at hc; first | done | omega) | contradiction) | (with_reducible refine Owe.mk ?_ ?_); (first | omega | (unfold most; omega) | decide +kernel | exact Nat.le_of_ble_eq_true rfl | assumption | (simp [most]; omega)) | (with_reducible intro z hz); (first | (replace hz := hz (by omega); subst hz) | subst hz)); (try (conv => whnf))))
 refine hLP _ _ _ Nat (fun k => ⟨[(0, .imm (.sl 2 (p.map spv))), (3, .imm (.int .i64 (k : Nat)))], []⟩) (fun k => k ≤ p.length ∧ preA p k) (fun k => p.length - k) 0 ⟨Nat.zero_le _, pre_zero p⟩ (WeakA.slots 0 (by first | omega | (rw [h0]; exact Nat.le_of_ble_eq_true rfl)) rfl rfl (by first | (simp only [List.all_cons, List.all_nil, blkBelow, belowL_imm, belowL, belowB, Bool.and_true, Bool.true_and]; first | done | decide) | rfl | simp [blkBelow, belowB, belowL, belowL_imm]) (by (repeat ((conv => whnf); first | exact trivial | refine And.intro (by first | exact WkOne.any | exact WkOne.eq (by with_reducible rfl) rfl | exact WkOne.int (by first | omega | (simp; first | done | omega)) | exact WkOne.eq rfl rfl | exact WkOne.le rfl (ILe.nil _)) ?_)))) ?_
 rintro k ⟨hk, hpre⟩
 by_cases hlt : k < p.length
 · obtain ⟨s, hx⟩ : ∃ s, p[k]? = some s := ⟨p[k], List.getElem?_eq_getElem hlt⟩
   have hM := lmay_pc s.label (hp s (List.mem_of_getElem? hx))
   by_cases hbk : k = 0 ∧ bookB s = true
   · have hB := rbook_pc s
     rw [hbk.2] at hB
     have hk0 := hbk.1
     (try (conv => whnf)); (repeat ((first | (with_reducible refine Fork.T (fun hc => ?_) ?_); (exfalso; first | omega | (simp [eqC, cellsI, idv, idl] at hc; first | done | omega) | contradiction) | (with_reducible refine Fork.F (fun hc => ?_) ?_); (exfalso; first | omega | (simp [eqC, cellsI, idv, idl] at hc; first | done | omega) | contradiction) | (with_reducible refine Owe.mk ?_ ?_); (first | omega | (unfold most; omega) | decide +kernel | exact Nat.le_of_ble_eq_true rfl | assumption | (simp [most]; omega)) | (with_reducible intro z hz); (first | (replace hz := hz (by omega); subst hz) | subst hz)); (try (conv => whnf))))
     refine Idx.mk k (spv s) _ rfl (by simp [hx]) rfl ?_
     (try (conv => whnf)); (repeat ((first | (with_reducible refine Fork.T (fun hc => ?_) ?_); (exfalso; first | omega | (simp [eqC, cellsI, idv, idl] at hc; first | done | omega) | contradiction) | (with_reducible refine Fork.F (fun hc => ?_) ?_); (exfalso; first | omega | (simp [eqC, cellsI, idv, idl] at hc; first | done | omega) | contradiction) | (with_reducible refine Owe.mk ?_ ?_); (first | omega | (unfold most; omega) | decide +kernel | exact Nat.le_of_ble_eq_true rfl | assumption | (simp [most]; omega)) | (with_reducible intro z hz); (first | (replace hz := hz (by omega); subst hz) | subst hz)); (try (conv => whnf))))
     refine CallV.mk _ (hC _ _ _ (PCw.of (hB))) (fun js hjs => ?_); subst hjs
     (try (conv => whnf)); (repeat ((first | (with_reducible refine Fork.T (fun hc => ?_) ?_); (exfalso; first | omega | (simp [eqC, cellsI, idv, idl] at hc; first | done | omega) | contradiction) | (with_reducible refine Fork.F (fun hc => ?_) ?_); (exfalso; first | omega | (simp [eqC, cellsI, idv, idl] at hc; first | done | omega) | contradiction) | (with_reducible refine Owe.mk ?_ ?_); (first | omega | (unfold most; omega) | decide +kernel | exact Nat.le_of_ble_eq_true rfl | assumption | (simp [most]; omega)) | (with_reducible intro z hz); (first | (replace hz := hz (by omega); subst hz) | subst hz)); (try (conv => whnf))))
     exact ⟨k + 1, ⟨by omega, pre_step hpre hx (by simp [okAt, hk0, hbk.2])⟩, by dsimp only; omega, (WeakA.slots 0 (by first | omega | (rw [h0]; exact Nat.le_of_ble_eq_true rfl)) rfl rfl (by first | (simp only [List.all_cons, List.all_nil, blkBelow, belowL_imm, belowL, belowB, Bool.and_true, Bool.true_and]; first | done | decide) | rfl | simp [blkBelow, belowB, belowL, belowL_imm]) (by (repeat ((conv => whnf); first | exact trivial | refine And.intro (by first | exact WkOne.any | exact WkOne.eq (by with_reducible rfl) rfl | exact WkOne.int (by first | omega | (simp; first | done | omega)) | exact WkOne.eq rfl rfl | exact WkOne.le rfl (ILe.nil _)) ?_))))⟩
   · have hoa : okAt k s = stepB s := by
       unfold okAt
       cases hq : bookB s with
       | false => simp
       | true =>
         have : k ≠ 0 := fun e => hbk ⟨e, hq⟩
         simp [this]
     by_cases h1 : 1 ≤ s.kind
     · by_cases h2 : s.kind ≤ 7
       · have hsb : stepB s = mayL s.label.data.toList := by unfold stepB; rw [decide_eq_true h1, decide_eq_true h2]; rfl
         rw [← hsb] at hM
         cases hb : stepB s with
         | true =>
           rw [hb] at hM
           by_cases hk0 : k = 0
           · have hB := rbook_pc s
             rw [show bookB s = false by cases hq : bookB s; rfl; exact absurd ⟨hk0, hq⟩ hbk] at hB
             (try (conv => whnf)); (repeat ((first | (with_reducible refine Fork.T (fun hc => ?_) ?_); (exfalso; first | omega | (simp [eqC, cellsI, idv, idl] at hc; first | done | omega) | contradiction) | (with_reducible refine Fork.F (fun hc => ?_) ?_); (exfalso; first | omega | (simp [eqC, cellsI, idv, idl] at hc; first | done | omega) | contradiction) | (with_reducible refine Owe.mk ?_ ?_); (first | omega | (unfold most; omega) | decide +kernel | exact Nat.le_of_ble_eq_true rfl | assumption | (simp [most]; omega)) | (with_reducible intro z hz); (first | (replace hz := hz (by omega); subst hz) | subst hz)); (try (conv => whnf))))
             refine Idx.mk k (spv s) _ rfl (by simp [hx]) rfl ?_
             (try (conv => whnf)); (repeat ((first | (with_reducible refine Fork.T (fun hc => ?_) ?_); (exfalso; first | omega | (simp [eqC, cellsI, idv, idl] at hc; first | done | omega) | contradiction) | (with_reducible refine Fork.F (fun hc => ?_) ?_); (exfalso; first | omega | (simp [eqC, cellsI, idv, idl] at hc; first | done | omega) | contradiction) | (with_reducible refine Owe.mk ?_ ?_); (first | omega | (unfold most; omega) | decide +kernel | exact Nat.le_of_ble_eq_true rfl | assumption | (simp [most]; omega)) | (with_reducible intro z hz); (first | (replace hz := hz (by omega); subst hz) | subst hz)); (try (conv => whnf))))
             refine CallV.mk _ (hC _ _ _ (PCw.of (hB))) (fun js hjs => ?_); subst hjs
             (try (conv => whnf)); (repeat ((first | (with_reducible refine Fork.T (fun hc => ?_) ?_); (exfalso; first | omega | (simp [eqC, cellsI, idv, idl] at hc; first | done | omega) | contradiction) | (with_reducible refine Fork.F (fun hc => ?_) ?_); (exfalso; first | omega | (simp [eqC, cellsI, idv, idl] at hc; first | done | omega) | contradiction) | (with_reducible refine Owe.mk ?_ ?_); (first | omega | (unfold most; omega) | decide +kernel | exact Nat.le_of_ble_eq_true rfl | assumption | (simp [most]; omega)) | (with_reducible intro z hz); (first | (replace hz := hz (by omega); subst hz) | subst hz)); (try (conv => whnf))))
             refine Idx.mk k (spv s) _ rfl (by simp [hx]) rfl ?_
             (try (conv => whnf)); (repeat ((first | (with_reducible refine Fork.T (fun hc => ?_) ?_); (exfalso; first | omega | (simp [eqC, cellsI, idv, idl] at hc; first | done | omega) | contradiction) | (with_reducible refine Fork.F (fun hc => ?_) ?_); (exfalso; first | omega | (simp [eqC, cellsI, idv, idl] at hc; first | done | omega) | contradiction) | (with_reducible refine Owe.mk ?_ ?_); (first | omega | (unfold most; omega) | decide +kernel | exact Nat.le_of_ble_eq_true rfl | assumption | (simp [most]; omega)) | (with_reducible intro z hz); (first | (replace hz := hz (by omega); subst hz) | subst hz)); (try (conv => whnf))))
             refine Idx.mk k (spv s) _ rfl (by simp [hx]) rfl ?_
             (try (conv => whnf)); (repeat ((first | (with_reducible refine Fork.T (fun hc => ?_) ?_); (exfalso; first | omega | (simp [eqC, cellsI, idv, idl] at hc; first | done | omega) | contradiction) | (with_reducible refine Fork.F (fun hc => ?_) ?_); (exfalso; first | omega | (simp [eqC, cellsI, idv, idl] at hc; first | done | omega) | contradiction) | (with_reducible refine Owe.mk ?_ ?_); (first | omega | (unfold most; omega) | decide +kernel | exact Nat.le_of_ble_eq_true rfl | assumption | (simp [most]; omega)) | (with_reducible intro z hz); (first | (replace hz := hz (by omega); subst hz) | subst hz)); (try (conv => whnf))))
             refine Idx.mk k (spv s) _ rfl (by simp [hx]) rfl ?_
             (try (conv => whnf)); (repeat ((first | (with_reducible refine Fork.T (fun hc => ?_) ?_); (exfalso; first | omega | (simp [eqC, cellsI, idv, idl] at hc; first | done | omega) | contradiction) | (with_reducible refine Fork.F (fun hc => ?_) ?_); (exfalso; first | omega | (simp [eqC, cellsI, idv, idl] at hc; first | done | omega) | contradiction) | (with_reducible refine Owe.mk ?_ ?_); (first | omega | (unfold most; omega) | decide +kernel | exact Nat.le_of_ble_eq_true rfl | assumption | (simp [most]; omega)) | (with_reducible intro z hz); (first | (replace hz := hz (by omega); subst hz) | subst hz)); (try (conv => whnf))))
             refine CallV.mk _ (hC _ _ _ (PCw.of (hM))) (fun js hjs => ?_); subst hjs
             (try (conv => whnf)); (repeat ((first | (with_reducible refine Fork.T (fun hc => ?_) ?_); (exfalso; first | omega | (simp [eqC, cellsI, idv, idl] at hc; first | done | omega) | contradiction) | (with_reducible refine Fork.F (fun hc => ?_) ?_); (exfalso; first | omega | (simp [eqC, cellsI, idv, idl] at hc; first | done | omega) | contradiction) | (with_reducible refine Owe.mk ?_ ?_); (first | omega | (unfold most; omega) | decide +kernel | exact Nat.le_of_ble_eq_true rfl | assumption | (simp [most]; omega)) | (with_reducible intro z hz); (first | (replace hz := hz (by omega); subst hz) | subst hz)); (try (conv => whnf))))
             exact ⟨k + 1, ⟨by omega, pre_step hpre hx (by rw [hoa, hb])⟩, by dsimp only; omega, (WeakA.slots 0 (by first | omega | (rw [h0]; exact Nat.le_of_ble_eq_true rfl)) rfl rfl (by first | (simp only [List.all_cons, List.all_nil, blkBelow, belowL_imm, belowL, belowB, Bool.and_true, Bool.true_and]; first | done | decide) | rfl | simp [blkBelow, belowB, belowL, belowL_imm]) (by (repeat ((conv => whnf); first | exact trivial | refine And.intro (by first | exact WkOne.any | exact WkOne.eq (by with_reducible rfl) rfl | exact WkOne.int (by first | omega | (simp; first | done | omega)) | exact WkOne.eq rfl rfl | exact WkOne.le rfl (ILe.nil _)) ?_))))⟩
           · (try (conv => whnf)); (repeat ((first | (with_reducible refine Fork.T (fun hc => ?_) ?_); (exfalso; first | omega | (simp [eqC, cellsI, idv, idl] at hc; first | done | omega) | contradiction) | (with_reducible refine Fork.F (fun hc => ?_) ?_); (exfalso; first | omega | (simp [eqC, cellsI, idv, idl] at hc; first | done | omega) | contradiction) | (with_reducible refine Owe.mk ?_ ?_); (first | omega | (unfold most; omega) | decide +kernel | exact Nat.le_of_ble_eq_true rfl | assumption | (simp [most]; omega)) | (with_reducible intro z hz); (first | (replace hz := hz (by omega); subst hz) | subst hz)); (try (conv => whnf))))
             refine Idx.mk k (spv s) _ rfl (by simp [hx]) rfl ?_
             (try (conv => whnf)); (repeat ((first | (with_reducible refine Fork.T (fun hc => ?_) ?_); (exfalso; first | omega | (simp [eqC, cellsI, idv, idl] at hc; first | done | omega) | contradiction) | (with_reducible refine Fork.F (fun hc => ?_) ?_); (exfalso; first | omega | (simp [eqC, cellsI, idv, idl] at hc; first | done | omega) | contradiction) | (with_reducible refine Owe.mk ?_ ?_); (first | omega | (unfold most; omega) | decide +kernel | exact Nat.le_of_ble_eq_true rfl | assumption | (simp [most]; omega)) | (with_reducible intro z hz); (first | (replace hz := hz (by omega); subst hz) | subst hz)); (try (conv => whnf))))
             refine Idx.mk k (spv s) _ rfl (by simp [hx]) rfl ?_
             (try (conv => whnf)); (repeat ((first | (with_reducible refine Fork.T (fun hc => ?_) ?_); (exfalso; first | omega | (simp [eqC, cellsI, idv, idl] at hc; first | done | omega) | contradiction) | (with_reducible refine Fork.F (fun hc => ?_) ?_); (exfalso; first | omega | (simp [eqC, cellsI, idv, idl] at hc; first | done | omega) | contradiction) | (with_reducible refine Owe.mk ?_ ?_); (first | omega | (unfold most; omega) | decide +kernel | exact Nat.le_of_ble_eq_true rfl | assumption | (simp [most]; omega)) | (with_reducible intro z hz); (first | (replace hz := hz (by omega); subst hz) | subst hz)); (try (conv => whnf))))
             refine Idx.mk k (spv s) _ rfl (by simp [hx]) rfl ?_
             (try (conv => whnf)); (repeat ((first | (with_reducible refine Fork.T (fun hc => ?_) ?_); (exfalso; first | omega | (simp [eqC, cellsI, idv, idl] at hc; first | done | omega) | contradiction) | (with_reducible refine Fork.F (fun hc => ?_) ?_); (exfalso; first | omega | (simp [eqC, cellsI, idv, idl] at hc; first | done | omega) | contradiction) | (with_reducible refine Owe.mk ?_ ?_); (first | omega | (unfold most; omega) | decide +kernel | exact Nat.le_of_ble_eq_true rfl | assumption | (simp [most]; omega)) | (with_reducible intro z hz); (first | (replace hz := hz (by omega); subst hz) | subst hz)); (try (conv => whnf))))
             refine CallV.mk _ (hC _ _ _ (PCw.of (hM))) (fun js hjs => ?_); subst hjs
             (try (conv => whnf)); (repeat ((first | (with_reducible refine Fork.T (fun hc => ?_) ?_); (exfalso; first | omega | (simp [eqC, cellsI, idv, idl] at hc; first | done | omega) | contradiction) | (with_reducible refine Fork.F (fun hc => ?_) ?_); (exfalso; first | omega | (simp [eqC, cellsI, idv, idl] at hc; first | done | omega) | contradiction) | (with_reducible refine Owe.mk ?_ ?_); (first | omega | (unfold most; omega) | decide +kernel | exact Nat.le_of_ble_eq_true rfl | assumption | (simp [most]; omega)) | (with_reducible intro z hz); (first | (replace hz := hz (by omega); subst hz) | subst hz)); (try (conv => whnf))))
             exact ⟨k + 1, ⟨by omega, pre_step hpre hx (by rw [hoa, hb])⟩, by dsimp only; omega, (WeakA.slots 0 (by first | omega | (rw [h0]; exact Nat.le_of_ble_eq_true rfl)) rfl rfl (by first | (simp only [List.all_cons, List.all_nil, blkBelow, belowL_imm, belowL, belowB, Bool.and_true, Bool.true_and]; first | done | decide) | rfl | simp [blkBelow, belowB, belowL, belowL_imm]) (by (repeat ((conv => whnf); first | exact trivial | refine And.intro (by first | exact WkOne.any | exact WkOne.eq (by with_reducible rfl) rfl | exact WkOne.int (by first | omega | (simp; first | done | omega)) | exact WkOne.eq rfl rfl | exact WkOne.le rfl (ILe.nil _)) ?_))))⟩
         | false =>
           rw [hb] at hM
           rw [may_not hx (by rw [hoa, hb])] at hfin
           by_cases hk0 : k = 0
           · have hB := rbook_pc s
             rw [show bookB s = false by cases hq : bookB s; rfl; exact absurd ⟨hk0, hq⟩ hbk] at hB
             (try (conv => whnf)); (repeat ((first | (with_reducible refine Fork.T (fun hc => ?_) ?_); (exfalso; first | omega | (simp [eqC, cellsI, idv, idl] at hc; first | done | omega) | contradiction) | (with_reducible refine Fork.F (fun hc => ?_) ?_); (exfalso; first | omega | (simp [eqC, cellsI, idv, idl] at hc; first | done | omega) | contradiction) | (with_reducible refine Owe.mk ?_ ?_); (first | omega | (unfold most; omega) | decide +kernel | exact Nat.le_of_ble_eq_true rfl | assumption | (simp [most]; omega)) | (with_reducible intro z hz); (first | (replace hz := hz (by omega); subst hz) | subst hz)); (try (conv => whnf))))
             refine Idx.mk k (spv s) _ rfl (by simp [hx]) rfl ?_
             (try (conv => whnf)); (repeat ((first | (with_reducible refine Fork.T (fun hc => ?_) ?_); (exfalso; first | omega | (simp [eqC, cellsI, idv, idl] at hc; first | done | omega) | contradiction) | (with_reducible refine Fork.F (fun hc => ?_) ?_); (exfalso; first | omega | (simp [eqC, cellsI, idv, idl] at hc; first | done | omega) | contradiction) | (with_reducible refine Owe.mk ?_ ?_); (first | omega | (unfold most; omega) | decide +kernel | exact Nat.le_of_ble_eq_true rfl | assumption | (simp [most]; omega)) | (with_reducible intro z hz); (first | (replace hz := hz (by omega); subst hz) | subst hz)); (try (conv => whnf))))
             refine CallV.mk _ (hC _ _ _ (PCw.of (hB))) (fun js hjs => ?_); subst hjs
             (try (conv => whnf)); (repeat ((first | (with_reducible refine Fork.T (fun hc => ?_) ?_); (exfalso; first | omega | (simp [eqC, cellsI, idv, idl] at hc; first | done | omega) | contradiction) | (with_reducible refine Fork.F (fun hc => ?_) ?_); (exfalso; first | omega | (simp [eqC, cellsI, idv, idl] at hc; first | done | omega) | contradiction) | (with_reducible refine Owe.mk ?_ ?_); (first | omega | (unfold most; omega) | decide +kernel | exact Nat.le_of_ble_eq_true rfl | assumption | (simp [most]; omega)) | (with_reducible intro z hz); (first | (replace hz := hz (by omega); subst hz) | subst hz)); (try (conv => whnf))))
             refine Idx.mk k (spv s) _ rfl (by simp [hx]) rfl ?_
             (try (conv => whnf)); (repeat ((first | (with_reducible refine Fork.T (fun hc => ?_) ?_); (exfalso; first | omega | (simp [eqC, cellsI, idv, idl] at hc; first | done | omega) | contradiction) | (with_reducible refine Fork.F (fun hc => ?_) ?_); (exfalso; first | omega | (simp [eqC, cellsI, idv, idl] at hc; first | done | omega) | contradiction) | (with_reducible refine Owe.mk ?_ ?_); (first | omega | (unfold most; omega) | decide +kernel | exact Nat.le_of_ble_eq_true rfl | assumption | (simp [most]; omega)) | (with_reducible intro z hz); (first | (replace hz := hz (by omega); subst hz) | subst hz)); (try (conv => whnf))))
             refine Idx.mk k (spv s) _ rfl (by simp [hx]) rfl ?_
             (try (conv => whnf)); (repeat ((first | (with_reducible refine Fork.T (fun hc => ?_) ?_); (exfalso; first | omega | (simp [eqC, cellsI, idv, idl] at hc; first | done | omega) | contradiction) | (with_reducible refine Fork.F (fun hc => ?_) ?_); (exfalso; first | omega | (simp [eqC, cellsI, idv, idl] at hc; first | done | omega) | contradiction) | (with_reducible refine Owe.mk ?_ ?_); (first | omega | (unfold most; omega) | decide +kernel | exact Nat.le_of_ble_eq_true rfl | assumption | (simp [most]; omega)) | (with_reducible intro z hz); (first | (replace hz := hz (by omega); subst hz) | subst hz)); (try (conv => whnf))))
             refine Idx.mk k (spv s) _ rfl (by simp [hx]) rfl ?_
             (try (conv => whnf)); (repeat ((first | (with_reducible refine Fork.T (fun hc => ?_) ?_); (exfalso; first | omega | (simp [eqC, cellsI, idv, idl] at hc; first | done | omega) | contradiction) | (with_reducible refine Fork.F (fun hc => ?_) ?_); (exfalso; first | omega | (simp [eqC, cellsI, idv, idl] at hc; first | done | omega) | contradiction) | (with_reducible refine Owe.mk ?_ ?_); (first | omega | (unfold most; omega) | decide +kernel | exact Nat.le_of_ble_eq_true rfl | assumption | (simp [most]; omega)) | (with_reducible intro z hz); (first | (replace hz := hz (by omega); subst hz) | subst hz)); (try (conv => whnf))))
             refine CallV.mk _ (hC _ _ _ (PCw.of (hM))) (fun js hjs => ?_); subst hjs
             (try (conv => whnf)); (repeat ((first | (with_reducible refine Fork.T (fun hc => ?_) ?_); (exfalso; first | omega | (simp [eqC, cellsI, idv, idl] at hc; first | done | omega) | contradiction) | (with_reducible refine Fork.F (fun hc => ?_) ?_); (exfalso; first | omega | (simp [eqC, cellsI, idv, idl] at hc; first | done | omega) | contradiction) | (with_reducible refine Owe.mk ?_ ?_); (first | omega | (unfold most; omega) | decide +kernel | exact Nat.le_of_ble_eq_true rfl | assumption | (simp [most]; omega)) | (with_reducible intro z hz); (first | (replace hz := hz (by omega); subst hz) | subst hz)); (try (conv => whnf))))
             exact hfin _ (ILes.refl _)
           · (try (conv => whnf)); (repeat ((first | (with_reducible refine Fork.T (fun hc => ?_) ?_); (exfalso; first | omega | (simp [eqC, cellsI, idv, idl] at hc; first | done | omega) | contradiction) | (with_reducible refine Fork.F (fun hc => ?_) ?_); (exfalso; first | omega | (simp [eqC, cellsI, idv, idl] at hc; first | done | omega) | contradiction) | (with_reducible refine Owe.mk ?_ ?_); (first | omega | (unfold most; omega) | decide +kernel | exact Nat.le_of_ble_eq_true rfl | assumption | (simp [most]; omega)) | (with_reducible intro z hz); (first | (replace hz := hz (by omega); subst hz) | subst hz)); (try (conv => whnf))))
             refine Idx.mk k (spv s) _ rfl (by simp [hx]) rfl ?_
             (try (conv => whnf)); (repeat ((first | (with_reducible refine Fork.T (fun hc => ?_) ?_); (exfalso; first | omega | (simp [eqC, cellsI, idv, idl] at hc; first | done | omega) | contradiction) | (with_reducible refine Fork.F (fun hc => ?_) ?_); (exfalso; first | omega | (simp [eqC, cellsI, idv, idl] at hc; first | done | omega) | contradiction) | (with_reducible refine Owe.mk ?_ ?_); (first | omega | (unfold most; omega) | decide +kernel | exact Nat.le_of_ble_eq_true rfl | assumption | (simp [most]; omega)) | (with_reducible intro z hz); (first | (replace hz := hz (by omega); subst hz) | subst hz)); (try (conv => whnf))))
             refine Idx.mk k (spv s) _ rfl (by simp [hx]) rfl ?_
             (try (conv => whnf)); (repeat ((first | (with_reducible refine Fork.T (fun hc => ?_) ?_); (exfalso; first | omega | (simp [eqC, cellsI, idv, idl] at hc; first | done | omega) | contradiction) | (with_reducible refine Fork.F (fun hc => ?_) ?_); (exfalso; first | omega | (simp [eqC, cellsI, idv, idl] at hc; first | done | omega) | contradiction) | (with_reducible refine Owe.mk ?_ ?_); (first | omega | (unfold most; omega) | decide +kernel | exact Nat.le_of_ble_eq_true rfl | assumption | (simp [most]; omega)) | (with_reducible intro z hz); (first | (replace hz := hz (by omega); subst hz) | subst hz)); (try (conv => whnf))))
             refine Idx.mk k (spv s) _ rfl (by simp [hx]) rfl ?_
             (try (conv => whnf)); (repeat ((first | (with_reducible refine Fork.T (fun hc => ?_) ?_); (exfalso; first | omega | (simp [eqC, cellsI, idv, idl] at hc; first | done | omega) | contradiction) | (with_reducible refine Fork.F (fun hc => ?_) ?_); (exfalso; first | omega | (simp [eqC, cellsI, idv, idl] at hc; first | done | omega) | contradiction) | (with_reducible refine Owe.mk ?_ ?_); (first | omega | (unfold most; omega) | decide +kernel | exact Nat.le_of_ble_eq_true rfl | assumption | (simp [most]; omega)) | (with_reducible intro z hz); (first | (replace hz := hz (by omega); subst hz) | subst hz)); (try (conv => whnf))))
             refine CallV.mk _ (hC _ _ _ (PCw.of (hM))) (fun js hjs => ?_); subst hjs
             (try (conv => whnf)); (repeat ((first | (with_reducible refine Fork.T (fun hc => ?_) ?_); (exfalso; first | omega | (simp [eqC, cellsI, idv, idl] at hc; first | done | omega) | contradiction) | (with_reducible refine Fork.F (fun hc => ?_) ?_); (exfalso; first | omega | (simp [eqC, cellsI, idv, idl] at hc; first | done | omega) | contradiction) | (with_reducible refine Owe.mk ?_ ?_); (first | omega | (unfold most; omega) | decide +kernel | exact Nat.le_of_ble_eq_true rfl | assumption | (simp [most]; omega)) | (with_reducible intro z hz); (first | (replace hz := hz (by omega); subst hz) | subst hz)); (try (conv => whnf))))
             exact hfin _ (ILes.refl _)
       · rw [may_not hx (by rw [hoa]; unfold stepB; rw [decide_eq_false h2]; simp)] at hfin
         by_cases hk0 : k = 0
         · have hB := rbook_pc s
           rw [show bookB s = false by cases hq : bookB s; rfl; exact absurd ⟨hk0, hq⟩ hbk] at hB
           (try (conv => whnf)); (repeat ((first | (with_reducible refine Fork.T (fun hc => ?_) ?_); (exfalso; first | omega | (simp [eqC, cellsI, idv, idl] at hc; first | done | omega) | contradiction) | (with_reducible refine Fork.F (fun hc => ?_) ?_); (exfalso; first | omega | (simp [eqC, cellsI, idv, idl] at hc; first | done | omega) | contradiction) | (with_reducible refine Owe.mk ?_ ?_); (first | omega | (unfold most; omega) | decide +kernel | exact Nat.le_of_ble_eq_true rfl | assumption | (simp [most]; omega)) | (with_reducible intro z hz); (first | (replace hz := hz (by omega); subst hz) | subst hz)); (try (conv => whnf))))
           refine Idx.mk k (spv s) _ rfl (by simp [hx]) rfl ?_
           (try (conv => whnf)); (repeat ((first | (with_reducible refine Fork.T (fun hc => ?_) ?_); (exfalso; first | omega | (simp [eqC, cellsI, idv, idl] at hc; first | done | omega) | contradiction) | (with_reducible refine Fork.F (fun hc => ?_) ?_); (exfalso; first | omega | (simp [eqC, cellsI, idv, idl] at hc; first | done | omega) | contradiction) | (with_reducible refine Owe.mk ?_ ?_); (first | omega | (unfold most; omega) | decide +kernel | exact Nat.le_of_ble_eq_true rfl | assumption | (simp [most]; omega)) | (with_reducible intro z hz); (first | (replace hz := hz (by omega); subst hz) | subst hz)); (try (conv => whnf))))
           refine CallV.mk _ (hC _ _ _ (PCw.of (hB))) (fun js hjs => ?_); subst hjs
           (try (conv => whnf)); (repeat ((first | (with_reducible refine Fork.T (fun hc => ?_) ?_); (exfalso; first | omega | (simp [eqC, cellsI, idv, idl] at hc; first | done | omega) | contradiction) | (with_reducible refine Fork.F (fun hc => ?_) ?_); (exfalso; first | omega | (simp [eqC, cellsI, idv, idl] at hc; first | done | omega) | contradiction) | (with_reducible refine Owe.mk ?_ ?_); (first | omega | (unfold most; omega) | decide +kernel | exact Nat.le_of_ble_eq_true rfl | assumption | (simp [most]; omega)) | (with_reducible intro z hz); (first | (replace hz := hz (by omega); subst hz) | subst hz)); (try (conv => whnf))))
           refine Idx.mk k (spv s) _ rfl (by simp [hx]) rfl ?_
           (try (conv => whnf)); (repeat ((first | (with_reducible refine Fork.T (fun hc => ?_) ?_); (exfalso; first | omega | (simp [eqC, cellsI, idv, idl] at hc; first | done | omega) | contradiction) | (with_reducible refine Fork.F (fun hc => ?_) ?_); (exfalso; first | omega | (simp [eqC, cellsI, idv, idl] at hc; first | done | omega) | contradiction) | (with_reducible refine Owe.mk ?_ ?_); (first | omega | (unfold most; omega) | decide +kernel | exact Nat.le_of_ble_eq_true rfl | assumption | (simp [most]; omega)) | (with_reducible intro z hz); (first | (replace hz := hz (by omega); subst hz) | subst hz)); (try (conv => whnf))))
           refine Idx.mk k (spv s) _ rfl (by simp [hx]) rfl ?_
           (try (conv => whnf)); (repeat ((first | (with_reducible refine Fork.T (fun hc => ?_) ?_); (exfalso; first | omega | (simp [eqC, cellsI, idv, idl] at hc; first | done | omega) | contradiction) | (with_reducible refine Fork.F (fun hc => ?_) ?_); (exfalso; first | omega | (simp [eqC, cellsI, idv, idl] at hc; first | done | omega) | contradiction) | (with_reducible refine Owe.mk ?_ ?_); (first | omega | (unfold most; omega) | decide +kernel | exact Nat.le_of_ble_eq_true rfl | assumption | (simp [most]; omega)) | (with_reducible intro z hz); (first | (replace hz := hz (by omega); subst hz) | subst hz)); (try (conv => whnf))))
           exact hfin _ (ILes.refl _)
         · (try (conv => whnf)); (repeat ((first | (with_reducible refine Fork.T (fun hc => ?_) ?_); (exfalso; first | omega | (simp [eqC, cellsI, idv, idl] at hc; first | done | omega) | contradiction) | (with_reducible refine Fork.F (fun hc => ?_) ?_); (exfalso; first | omega | (simp [eqC, cellsI, idv, idl] at hc; first | done | omega) | contradiction) | (with_reducible refine Owe.mk ?_ ?_); (first | omega | (unfold most; omega) | decide +kernel | exact Nat.le_of_ble_eq_true rfl | assumption | (simp [most]; omega)) | (with_reducible intro z hz); (first | (replace hz := hz (by omega); subst hz) | subst hz)); (try (conv => whnf))))
           refine Idx.mk k (spv s) _ rfl (by simp [hx]) rfl ?_
           (try (conv => whnf)); (repeat ((first | (with_reducible refine Fork.T (fun hc => ?_) ?_); (exfalso; first | omega | (simp [eqC, cellsI, idv, idl] at hc; first | done | omega) | contradiction) | (with_reducible refine Fork.F (fun hc => ?_) ?_); (exfalso; first | omega | (simp [eqC, cellsI, idv, idl] at hc; first | done | omega) | contradiction) | (with_reducible refine Owe.mk ?_ ?_); (first | omega | (unfold most; omega) | decide +kernel | exact Nat.le_of_ble_eq_true rfl | assumption | (simp [most]; omega)) | (with_reducible intro z hz); (first | (replace hz := hz (by omega); subst hz) | subst hz)); (try (conv => whnf))))
           refine Idx.mk k (spv s) _ rfl (by simp [hx]) rfl ?_
           (try (conv => whnf)); (repeat ((first | (with_reducible refine Fork.T (fun hc => ?_) ?_); (exfalso; first | omega | (simp [eqC, cellsI, idv, idl] at hc; first | done | omega) | contradiction) | (with_reducible refine Fork.F (fun hc => ?_) ?_); (exfalso; first | omega | (simp [eqC, cellsI, idv, idl] at hc; first | done | omega) | contradiction) | (with_reducible refine Owe.mk ?_ ?_); (first | omega | (unfold most; omega) | decide +kernel | exact Nat.le_of_ble_eq_true rfl | assumption | (simp [most]; omega)) | (with_reducible intro z hz); (first | (replace hz := hz (by omega); subst hz) | subst hz)); (try (conv => whnf))))
           exact hfin _ (ILes.refl _)
     · rw [may_not hx (by rw [hoa]; unfold stepB; rw [decide_eq_false h1]; simp)] at hfin
       by_cases hk0 : k = 0
       · have hB := rbook_pc s
         rw [show bookB s = false by cases hq : bookB s; rfl; exact absurd ⟨hk0, hq⟩ hbk] at hB
         (try (conv => whnf)); (repeat ((first | (with_reducible refine Fork.T (fun hc => ?_) ?_); (exfalso; first | omega | (simp [eqC, cellsI, idv, idl] at hc; first | done | omega) | contradiction) | (with_reducible refine Fork.F (fun hc => ?_) ?_); (exfalso; first | omega | (simp [eqC, cellsI, idv, idl] at hc; first | done | omega) | contradiction) | (with_reducible refine Owe.mk ?_ ?_); (first | omega | (unfold most; omega) | decide +kernel | exact Nat.le_of_ble_eq_true rfl | assumption | (simp [most]; omega)) | (with_reducible intro z hz); (first | (replace hz := hz (by omega); subst hz) | subst hz)); (try (conv => whnf))))
         refine Idx.mk k (spv s) _ rfl (by simp [hx]) rfl ?_
         (try (conv => whnf)); (repeat ((first | (with_reducible refine Fork.T (fun hc => ?_) ?_); (exfalso; first | omega | (simp [eqC, cellsI, idv, idl] at hc; first | done | omega) | contradiction) | (with_reducible refine Fork.F (fun hc => ?_) ?_); (exfalso; first | omega | (simp [eqC, cellsI, idv, idl] at hc; first | done | omega) | contradiction) | (with_reducible refine Owe.mk ?_ ?_); (first | omega | (unfold most; omega) | decide +kernel | exact Nat.le_of_ble_eq_true rfl | assumption | (simp [most]; omega)) | (with_reducible intro z hz); (first | (replace hz := hz (by omega); subst hz) | subst hz)); (try (conv => whnf))))
         refine CallV.mk _ (hC _ _ _ (PCw.of (hB))) (fun js hjs => ?_); subst hjs
         (try (conv => whnf)); (repeat ((first | (with_reducible refine Fork.T (fun hc => ?_) ?_); (exfalso; first | omega | (simp [eqC, cellsI, idv, idl] at hc; first | done | omega) | contradiction) | (with_reducible refine Fork.F (fun hc => ?_) ?_); (exfalso; first | omega | (simp [eqC, cellsI, idv, idl] at hc; first | done | omega) | contradiction) | (with_reducible refine Owe.mk ?_ ?_); (first | omega | (unfold most; omega) | decide +kernel | exact Nat.le_of_ble_eq_true rfl | assumption | (simp [most]; omega)) | (with_reducible intro z hz); (first | (replace hz := hz (by omega); subst hz) | subst hz)); (try (conv => whnf))))
         refine Idx.mk k (spv s) _ rfl (by simp [hx]) rfl ?_
         (try (conv => whnf)); (repeat ((first | (with_reducible refine Fork.T (fun hc => ?_) ?_); (exfalso; first | omega | (simp [eqC, cellsI, idv, idl] at hc; first | done | omega) | contradiction) | (with_reducible refine Fork.F (fun hc => ?_) ?_); (exfalso; first | omega | (simp [eqC, cellsI, idv, idl] at hc; first | done | omega) | contradiction) | (with_reducible refine Owe.mk ?_ ?_); (first | omega | (unfold most; omega) | decide +kernel | exact Nat.le_of_ble_eq_true rfl | assumption | (simp [most]; omega)) | (with_reducible intro z hz); (first | (replace hz := hz (by omega); subst hz) | subst hz)); (try (conv => whnf))))
         exact hfin _ (ILes.refl _)
       · (try (conv => whnf)); (repeat ((first | (with_reducible refine Fork.T (fun hc => ?_) ?_); (exfalso; first | omega | (simp [eqC, cellsI, idv, idl] at hc; first | done | omega) | contradiction) | (with_reducible refine Fork.F (fun hc => ?_) ?_); (exfalso; first | omega | (simp [eqC, cellsI, idv, idl] at hc; first | done | omega) | contradiction) | (with_reducible refine Owe.mk ?_ ?_); (first | omega | (unfold most; omega) | decide +kernel | exact Nat.le_of_ble_eq_true rfl | assumption | (simp [most]; omega)) | (with_reducible intro z hz); (first | (replace hz := hz (by omega); subst hz) | subst hz)); (try (conv => whnf))))
         refine Idx.mk k (spv s) _ rfl (by simp [hx]) rfl ?_
         (try (conv => whnf)); (repeat ((first | (with_reducible refine Fork.T (fun hc => ?_) ?_); (exfalso; first | omega | (simp [eqC, cellsI, idv, idl] at hc; first | done | omega) | contradiction) | (with_reducible refine Fork.F (fun hc => ?_) ?_); (exfalso; first | omega | (simp [eqC, cellsI, idv, idl] at hc; first | done | omega) | contradiction) | (with_reducible refine Owe.mk ?_ ?_); (first | omega | (unfold most; omega) | decide +kernel | exact Nat.le_of_ble_eq_true rfl | assumption | (simp [most]; omega)) | (with_reducible intro z hz); (first | (replace hz := hz (by omega); subst hz) | subst hz)); (try (conv => whnf))))
         exact hfin _ (ILes.refl _)
 · (try (conv => whnf)); (repeat ((first | (with_reducible refine Fork.T (fun hc => ?_) ?_); (exfalso; first | omega | (simp [eqC, cellsI, idv, idl] at hc; first | done | omega) | contradiction) | (with_reducible refine Fork.F (fun hc => ?_) ?_); (exfalso; first | omega | (simp [eqC, cellsI, idv, idl] at hc; first | done | omega) | contradiction) | (with_reducible refine Owe.mk ?_ ?_); (first | omega | (unfold most; omega) | decide +kernel | exact Nat.le_of_ble_eq_true rfl | assumption | (simp [most]; omega)) | (with_reducible intro z hz); (first | (replace hz := hz (by omega); subst hz) | subst hz)); (try (conv => whnf))))
   obtain rfl : k = p.length := by omega
   rw [mayA_true ⟨by omega, hpre⟩] at hfin
   exact hfin _ (ILes.refl _)
end Go.Proofs.YtiohjjgncbhimaaDoor.Pa
namespace Go.Proofs.YtiohjjgncbhimaaDoor.Pa
open Go Go.Pv Go.Proofs.YtiohjjgncbhimaaDoor.Pu
set_option linter.unusedSimpArgs false
open Lab Lcs Go.Proofs.YtiohjjgncbhimaaDoor Go.RowKit
set_option maxRecDepth 10000
set_option maxHeartbeats 16000000
theorem at_k {α : Type} {l : List α} {k : Nat} (h : k < l.length) : ∃ x, l[k]? = some x := ⟨l[k], List.getElem?_eq_getElem h⟩
def isS (s : Stp) (u : Ut) : Bool := decide (ustep u = s)
def firstM (u : Ut) (s : Stp) : List Ut := if bookB s = true then [u] else u.all.filter (isS s)
def kidsM (l : List Ut) (s : Stp) : List Ut := l.flatMap fun u => u.kids.filter (isS s)
def unitsA (u : Ut) (p : List Stp) : List Ut := match p with
 | [] => [u]
 | s :: r => r.foldl kidsM (firstM u s)
noncomputable def unitsM (u : Ut) (p : List Stp) : List Ut := if mayA p = true then unitsA u p else []
noncomputable def findA (u : Ut) (p : List Stp) : List Trip := (unitsM u p).map Ut.id
noncomputable def oneA (u : Ut) (p : List Stp) : Trip × Int := match findA u p with
 | [] => (⟨0, 0, 0⟩, 7)
 | [t] => (t, 0)
 | _ => (⟨0, 0, 0⟩, 8)
theorem fil_step {l : List Ut} {k : Nat} {x : Ut} {s : Stp} (hx : l[k]? = some x) : (l.take (k + 1)).filter (isS s) = (l.take k).filter (isS s) ++ (if isS s x = true then [x] else []) := by
 rw [take_one hx, List.filter_append]
 congr 1
 by_cases h : isS s x = true
 · rw [if_pos h]; simp [h]
 · rw [if_neg h]; simp [h]
theorem kidsM_step {l : List Ut} {k : Nat} {x : Ut} {s : Stp} (hx : l[k]? = some x) : kidsM (l.take (k + 1)) s = kidsM (l.take k) s ++ x.kids.filter (isS s) := by
 unfold kidsM
 rw [take_one hx, List.flatMap_append]
 simp
theorem fil_counts (s : Stp) : ∀ l : List Ut, Ut.counts (l.filter (isS s)) ≤ Ut.counts l
 | [] => by simp [Ut.counts]
 | u :: r => by
   have := fil_counts s r
   by_cases h : isS s u = true
   · rw [List.filter_cons_of_pos h]; simp only [Ut.counts]; omega
   · rw [List.filter_cons_of_neg h]; simp only [Ut.counts]; omega
theorem kidsM_counts (s : Stp) : ∀ l : List Ut, Ut.counts (kidsM l s) ≤ Ut.counts l
 | [] => by simp [kidsM, Ut.counts]
 | u :: r => by
   have h1 := kidsM_counts s r
   have h2 := fil_counts s u.kids
   have h3 := Ut.count_eq u
   unfold kidsM at h1 ⊢
   rw [List.flatMap_cons, counts_app]
   simp only [Ut.counts]
   omega
mutual
theorem sub_count : ∀ (u : Ut) (x : Ut), x ∈ u.all → x.count ≤ u.count
 | .mk id kind label head words kids, x, h => by
   rw [all_mk] at h
   rcases List.mem_cons.1 h with rfl | h
   · exact Nat.le_refl _
   · have := subs_count kids x h
     rw [count_mk]
     omega
theorem subs_count : ∀ (l : List Ut) (x : Ut), x ∈ Ut.alls l → x.count ≤ Ut.counts l
 | [], x, h => by simp [Ut.alls] at h
 | u :: r, x, h => by
   unfold Ut.alls at h
   simp only [Ut.counts]
   rcases List.mem_append.1 h with h | h
   · have := sub_count u x h; omega
   · have := subs_count r x h; omega
end
theorem counts_le (M : Nat) : ∀ l : List Ut, (∀ x ∈ l, x.count ≤ M) → Ut.counts l ≤ l.length * M
 | [], _ => by simp [Ut.counts]
 | u :: r, h => by
   have h1 := counts_le M r fun x hx => h x (List.mem_cons_of_mem _ hx)
   have h2 := h u List.mem_cons_self
   simp only [Ut.counts, List.length_cons, Nat.succ_mul]
   omega
theorem all_counts {u : Ut} (h : u.count ≤ 10000) : Ut.counts u.all ≤ 100000000 := by
 have h1 := counts_le u.count u.all (sub_count u)
 rw [all_length] at h1
 have h2 : u.count * u.count ≤ 10000 * 10000 := Nat.mul_le_mul h h
 omega
theorem firstM_counts {u : Ut} (s : Stp) (h : u.count ≤ 10000) : Ut.counts (firstM u s) ≤ 100000000 := by
 unfold firstM
 split
 · rw [counts_one]; omega
 · exact Nat.le_trans (fil_counts s _) (all_counts h)
theorem fold_counts : ∀ (r : List Stp) (l : List Ut), Ut.counts (r.foldl kidsM l) ≤ Ut.counts l
 | [], _ => Nat.le_refl _
 | s :: r, l => Nat.le_trans (fold_counts r (kidsM l s)) (kidsM_counts s l)
theorem units_counts {u : Ut} (p : List Stp) (h : u.count ≤ 10000) : Ut.counts (unitsA u p) ≤ 100000000 := by
 cases p with
 | nil => show Ut.counts [u] ≤ _; rw [counts_one]; omega
 | cons s r => exact Nat.le_trans (fold_counts r _) (firstM_counts s h)
theorem gather_pcb (L : List Ut) (u : Ut) (s : Stp) (d : Int) (hl : L.length ≤ 100000000) : PCB Tryd.prog envU 67 [.imm (uv u), .imm (.int .i64 d), .ptr 0 1 0, .ptr 1 1 0] [.box 1 [.imm (.int .i64 (s).kind), .imm (.str (s).label)], .box 1 [.row 2 1], .row 27 8 1 ((List.map uv (L)).map .imm)] [.imm (.bool true)] [.box 1 [.imm (.int .i64 (s).kind), .imm (.str (s).label)], .box 1 [.row 2 2], .row 27 8 2 ((List.map uv (L ++ (if isS s u = true then [u] else []))).map .imm)] := by
 have hL : ((L.map uv).map PV.imm).length = L.length := by simp
 have hS := stepOf_pc u
 unfold isS
 rw [uv_eq] at hS ⊢
 by_cases h : ustep u = s
 · have hi : eqC [.int .i64 u.kind, .str u.label] [.int .i64 s.kind, .str s.label] = true := step_eq (a := ustep u) h
   rw [decide_eq_true h]
   refine PCB.of_va (T := tb0) eqs2_ok tb_ok rfl mixed Tryd.func67 rfl rfl rfl (Nat.le_of_ble_eq_true rfl) rfl ?_; intro Γ C WK LP fin h0 hk0 hW hC hB hR hLP hfin
   (try (conv => whnf)); (repeat ((first | (with_reducible refine Fork.T (fun hc => ?_) ?_); (exfalso; first | omega | (simp [eqC, cellsI, idv, idl] at hc; first | done | omega) | contradiction) | (with_reducible refine Fork.F (fun hc => ?_) ?_); (exfalso; first | omega | (simp [eqC, cellsI, idv, idl] at hc; first | done | omega) | contradiction) | (with_reducible refine Owe.mk ?_ ?_); (first | omega | (unfold most; omega) | decide +kernel | exact Nat.le_of_ble_eq_true rfl | assumption | (simp [most]; omega)) | (with_reducible intro z hz); (first | (replace hz := hz (by omega); subst hz) | subst hz)); (try (conv => whnf))))
   refine CallV.mk _ (hC _ _ _ (PCw.of (hS))) (fun js hjs => ?_); subst hjs
   (try (conv => whnf)); (repeat ((first | (with_reducible refine Fork.T (fun hc => ?_) ?_); (exfalso; first | omega | (simp [eqC, cellsI, idv, idl] at hc; first | done | omega) | contradiction) | (with_reducible refine Fork.F (fun hc => ?_) ?_); (exfalso; first | omega | (simp [eqC, cellsI, idv, idl] at hc; first | done | omega) | contradiction) | (with_reducible refine Owe.mk ?_ ?_); (first | omega | (unfold most; omega) | decide +kernel | exact Nat.le_of_ble_eq_true rfl | assumption | (simp [most]; omega)) | (with_reducible intro z hz); (first | (replace hz := hz (by omega); subst hz) | subst hz)); (try (conv => whnf))))
   refine Pos.mk ((L.map uv).map PV.imm).length (by omega) (by simp) ?_
   (try (conv => whnf)); (repeat ((first | (with_reducible refine Fork.T (fun hc => ?_) ?_); (exfalso; first | omega | (simp [eqC, cellsI, idv, idl] at hc; first | done | omega) | contradiction) | (with_reducible refine Fork.F (fun hc => ?_) ?_); (exfalso; first | omega | (simp [eqC, cellsI, idv, idl] at hc; first | done | omega) | contradiction) | (with_reducible refine Owe.mk ?_ ?_); (first | omega | (unfold most; omega) | decide +kernel | exact Nat.le_of_ble_eq_true rfl | assumption | (simp [most]; omega)) | (with_reducible intro z hz); (first | (replace hz := hz (by omega); subst hz) | subst hz)); (try (conv => whnf))))
   refine At.mk _ List.getElem?_concat_length ?_
   (try (conv => whnf)); (repeat ((first | (with_reducible refine Fork.T (fun hc => ?_) ?_); (exfalso; first | omega | (simp [eqC, cellsI, idv, idl] at hc; first | done | omega) | contradiction) | (with_reducible refine Fork.F (fun hc => ?_) ?_); (exfalso; first | omega | (simp [eqC, cellsI, idv, idl] at hc; first | done | omega) | contradiction) | (with_reducible refine Owe.mk ?_ ?_); (first | omega | (unfold most; omega) | decide +kernel | exact Nat.le_of_ble_eq_true rfl | assumption | (simp [most]; omega)) | (with_reducible intro z hz); (first | (replace hz := hz (by omega); subst hz) | subst hz)); (try (conv => whnf))))
   exact hfin _ (((WeakA.row 2 (((L ++ [u]).map uv).map .imm) rfl (by simp only [List.map_append, List.map_cons, List.map_nil, uv_eq u]; rw [List.set_append_right _ _ (Nat.le_refl _), Nat.sub_self]; rfl))).trans (WeakA.slots 3 (by first | omega | (rw [h0]; exact Nat.le_of_ble_eq_true rfl)) rfl rfl (by first | (simp only [List.all_cons, List.all_nil, blkBelow, belowL_imm, belowL, belowB, Bool.and_true, Bool.true_and]; first | done | decide) | rfl | simp [blkBelow, belowB, belowL, belowL_imm]) (by (repeat ((conv => whnf); first | exact trivial | refine And.intro (by first | exact WkOne.any | exact WkOne.eq (by with_reducible rfl) rfl | exact WkOne.int (by first | omega | (simp; first | done | omega)) | exact WkOne.eq rfl rfl | exact WkOne.le rfl (ILe.nil _)) ?_)))))
 · have hi : ¬ eqC [.int .i64 u.kind, .str u.label] [.int .i64 s.kind, .str s.label] = true := step_ne (a := ustep u) h
   rw [decide_eq_false h]
   refine PCB.of_va (T := tb0) eqs2_ok tb_ok rfl mixed Tryd.func67 rfl rfl rfl (Nat.le_of_ble_eq_true rfl) rfl ?_; intro Γ C WK LP fin h0 hk0 hW hC hB hR hLP hfin
   (try (conv => whnf)); (repeat ((first | (with_reducible refine Fork.T (fun hc => ?_) ?_); (exfalso; first | omega | (simp [eqC, cellsI, idv, idl] at hc; first | done | omega) | contradiction) | (with_reducible refine Fork.F (fun hc => ?_) ?_); (exfalso; first | omega | (simp [eqC, cellsI, idv, idl] at hc; first | done | omega) | contradiction) | (with_reducible refine Owe.mk ?_ ?_); (first | omega | (unfold most; omega) | decide +kernel | exact Nat.le_of_ble_eq_true rfl | assumption | (simp [most]; omega)) | (with_reducible intro z hz); (first | (replace hz := hz (by omega); subst hz) | subst hz)); (try (conv => whnf))))
   refine CallV.mk _ (hC _ _ _ (PCw.of (hS))) (fun js hjs => ?_); subst hjs
   (try (conv => whnf)); (repeat ((first | (with_reducible refine Fork.T (fun hc => ?_) ?_); (exfalso; first | omega | (simp [eqC, cellsI, idv, idl] at hc; first | done | omega) | contradiction) | (with_reducible refine Fork.F (fun hc => ?_) ?_); (exfalso; first | omega | (simp [eqC, cellsI, idv, idl] at hc; first | done | omega) | contradiction) | (with_reducible refine Owe.mk ?_ ?_); (first | omega | (unfold most; omega) | decide +kernel | exact Nat.le_of_ble_eq_true rfl | assumption | (simp [most]; omega)) | (with_reducible intro z hz); (first | (replace hz := hz (by omega); subst hz) | subst hz)); (try (conv => whnf))))
   exact hfin _ (((WeakA.row 2 (((L ++ []).map uv).map .imm) rfl (by simp))).trans ((WeakA.renew 2 2 rfl (by first | omega | (intro _; rw [hk0 _ _ rfl]; exact Nat.le_of_ble_eq_true rfl)) (by repeat (first | exact trivial | refine And.intro (rgL_imms _ _ _ _) ?_ | refine And.intro rfl ?_))).trans (WeakA.slots 3 (by first | omega | (rw [h0]; exact Nat.le_of_ble_eq_true rfl)) rfl rfl (by first | (simp only [List.all_cons, List.all_nil, blkBelow, belowL_imm, belowL, belowB, Bool.and_true, Bool.true_and]; first | done | decide) | rfl | simp [blkBelow, belowB, belowL, belowL_imm]) (by (repeat ((conv => whnf); first | exact trivial | refine And.intro (by first | exact WkOne.any | exact WkOne.eq (by with_reducible rfl) rfl | exact WkOne.int (by first | omega | (simp; first | done | omega)) | exact WkOne.eq rfl rfl | exact WkOne.le rfl (ILe.nil _)) ?_))))))
end Go.Proofs.YtiohjjgncbhimaaDoor.Pa
