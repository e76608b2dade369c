/-
  The days in force, by the program and by the reference.
-/
import Derived.Test.YtmgjpmjmondplaaWAh
namespace Go.Proofs.Ytmgjpmjmondplaa.Pe
open Go Go.Pv Go.RowKit
set_option linter.unusedSimpArgs false
open Spans Rm
set_option maxRecDepth 10000
set_option maxHeartbeats 16000000
def effM : List (IV × IV) := [(.int .i64 7, .fn 29), (.int .i64 8, .fn 38), (.int .i64 9, .fn 29)]
theorem effects_pcb : PCB Try.prog env0 31 [] [.dead 1] [.row 0 2] [.map (.int .i64) 2 effM] := by
 refine PCB.of_va (T := tb0) eqs_ok tb_ok rfl mixed Try.func31 rfl rfl rfl (Nat.le_of_ble_eq_true rfl) rfl ?_; intro Γ C WK LP fin h0 hk0 hW hC hB hR hLP hfin
 (try (conv => whnf)); (repeat ((first | refine qT ?_ | refine qF ?_ | refine qO ?_ | (with_reducible intro z hz); (first | (replace hz := hz (by omega); subst hz) | subst hz)); (try (conv => whnf))))
 exact hfin _ (WeakA.trans (WeakA.adopt 0 1 2 (by decide) rfl rfl (by rw [h0]; exact Nat.le_of_ble_eq_true rfl) (by first | omega | (intro _; rw [hk0 _ _ rfl]; exact Nat.le_of_ble_eq_true rfl)) (by repeat (first | exact trivial | refine And.intro (mvL_imms _ _ _ _ _) ?_ | refine And.intro rfl ?_))) (qSL 1 rfl rfl))
def nwE (f : FuncId) : Nat := bif Nat.beq f 31 then 2 else 0
noncomputable def tbe : Tb := ⟨Pv.look tdl, eqs, fun _ => none, fun _ => [], fun _ => false, nwE⟩
theorem tbe_ok : ∀ t d, tbe.td t = some d → tdOf Try.prog t = some d := Pv.look_ok tdl_ok
theorem env_eq (x : En) : env1 x = .agg [.int .i64 x.act, .int .i64 x.item, .int .i64 x.day, .int .i64 x.it.kind, x.it.m 1, x.it.m 2, x.it.m 3, x.it.m 4, x.it.m 5, x.it.m 6, x.it.m 7, x.it.m 8, x.it.m 9, x.it.m 10, x.it.m 11, x.it.m 12, x.it.m 13, x.it.m 14, x.it.m 15, x.it.m 16, .int .i64 x.it.st.k, .int .i64 x.it.st.d, .str x.it.st.e, .int .i64 x.it.a, .int .i64 x.it.i, .int .i64 x.it.d, .str x.it.ev, x.it.b] := rfl
theorem imv_eq (x : Im) : imv x = .agg [.int .i64 x.kind, x.m 1, x.m 2, x.m 3, x.m 4, x.m 5, x.m 6, x.m 7, x.m 8, x.m 9, x.m 10, x.m 11, x.m 12, x.m 13, x.m 14, x.m 15, x.m 16, .int .i64 x.st.k, .int .i64 x.st.d, .str x.st.e, .int .i64 x.a, .int .i64 x.i, .int .i64 x.d, .str x.ev, x.b] := rfl
abbrev bxS (a : St) : Blk := .box 1 [.imm (.int .i64 a.k), .imm (.int .i64 a.d), .imm (.str a.e)]
abbrev bxE (x : En) : Blk := .box 1 [.imm (.int .i64 x.act), .imm (.int .i64 x.item), .imm (.int .i64 x.day), .imm (.int .i64 x.it.kind), .imm (x.it.m 1), .imm (x.it.m 2), .imm (x.it.m 3), .imm (x.it.m 4), .imm (x.it.m 5), .imm (x.it.m 6), .imm (x.it.m 7), .imm (x.it.m 8), .imm (x.it.m 9), .imm (x.it.m 10), .imm (x.it.m 11), .imm (x.it.m 12), .imm (x.it.m 13), .imm (x.it.m 14), .imm (x.it.m 15), .imm (x.it.m 16), .imm (.int .i64 x.it.st.k), .imm (.int .i64 x.it.st.d), .imm (.str x.it.st.e), .imm (.int .i64 x.it.a), .imm (.int .i64 x.it.i), .imm (.int .i64 x.it.d), .imm (.str x.it.ev), .imm x.it.b]
theorem eff_none {k : Int} (h7 : ¬ k = 7) (h8 : ¬ k = 8) (h9 : ¬ k = 9) : lookM effM (.int .i64 k) = none := by
 simp [effM, lookM, eqI, Ne.symm h7, Ne.symm h8, Ne.symm h9, eq_comm, h7, h8, h9]
theorem step_no {e x : En} {P : Int → Bool} (h : refers x.it e.act e.item = false) : stepD e P x = P := by unfold stepD; rw [h]; rfl
theorem step_other {e x : En} {P : Int → Bool} (h7 : ¬ x.it.kind = 7) (h8 : ¬ x.it.kind = 8) (h9 : ¬ x.it.kind = 9) : stepD e P x = P := by
 unfold stepD
 split
 · rename_i hr
   have h11 : x.it.kind = 11 := by
     unfold refers at hr
     rw [if_neg (fun h => by rcases h with h | h | h <;> contradiction)] at hr
     split at hr
     · assumption
     · cases hr
   exact if_pos h11
 · rfl
theorem step_ext {e x : En} {P : Int → Bool} (h : refers x.it e.act e.item = true) (hk : x.it.kind = 7 ∨ x.it.kind = 9) : stepD e P x = fun d => P d || memB [(x.it.d, 1048577)] d := by
 unfold stepD
 rw [if_pos h, if_neg (by omega), if_neg (by omega)]
theorem step_trunc {e x : En} {P : Int → Bool} (h : refers x.it e.act e.item = true) (hk : x.it.kind = 8) : stepD e P x = fun d => P d && memB [(0, x.it.d)] d := by
 unfold stepD
 rw [if_pos h, if_pos hk]
theorem ext_canon {P : Int → Bool} {n : Nat} (h : HasC P n) (t : Int) : canon (fun d => memB (canon P) d || memB [(t, 1048577)] d) = canon (fun d => P d || memB [(t, 1048577)] d) := canon_ext fun d h0 h1 => by rw [h.val d h0 h1]
theorem trunc_canon {P : Int → Bool} {n : Nat} (h : HasC P n) (t : Int) : canon (fun d => memB (canon P) d && memB [(0, t)] d) = canon (fun d => P d && memB [(0, t)] d) := canon_ext fun d h0 h1 => by rw [h.val d h0 h1]
end Go.Proofs.Ytmgjpmjmondplaa.Pe
