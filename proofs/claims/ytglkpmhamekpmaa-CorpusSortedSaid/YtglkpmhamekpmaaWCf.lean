/-
  Corpus: a new register, the register of gazettes.
-/
import Derived.Test.YtglkpmhamekpmaaWCe
namespace Go.Proofs.Ytglkpmhamekpmaa.Po
open Go Go.Pv Go.RowKit
set_option linter.unusedSimpArgs false
open Lab Lcs Go.Proofs.Ytglkpmhamekpmaa Go.Proofs.Ytglkpmhamekpmaa.Pu
set_option maxRecDepth 10000
set_option maxHeartbeats 32000000
theorem newReg_pcb : PCB Try.prog env0 34 [] [.dead 1, .dead 1, .dead 1] [.agg [.row 0 2, .row 1 2, .row 2 2]] [.map (.int .i64) 2 [], .map (.int .i64) 2 [], .map kkC 2 []] := by
 refine PCB.of_va (T := tb0) eqs_ok tb_ok rfl mixed Try.func34 rfl rfl rfl (Nat.le_of_ble_eq_true rfl) rfl ?_; intro Γ C WK LP fin h0 hk0 hW hC hB hR hLP hfin
 have h03 : Γ.n0 = 3 := h0
 (try (conv => whnf)); (repeat ((first | refine qT ?_ | refine qF ?_ | refine qO ?_ | (with_reducible intro z hz); (first | (replace hz := hz (by omega); subst hz) | subst hz)); (try (conv => whnf))))
 exact hfin _ ((WeakA.adopt 0 4 2 (by decide) rfl rfl (by rw [h0]; exact Nat.le_of_ble_eq_true rfl) (by first | omega | (intro _; rw [hk0 _ _ rfl]; exact Nat.le_of_ble_eq_true rfl)) (by repeat (first | exact trivial | refine And.intro (mvL_imms _ _ _ _ _) ?_ | refine And.intro rfl ?_))).trans ((WeakA.adopt 1 5 2 (by decide) rfl rfl (by rw [h0]; exact Nat.le_of_ble_eq_true rfl) (by first | omega | (intro _; rw [hk0 _ _ rfl]; exact Nat.le_of_ble_eq_true rfl)) (by repeat (first | exact trivial | refine And.intro (mvL_imms _ _ _ _ _) ?_ | refine And.intro rfl ?_))).trans ((WeakA.adopt 2 6 2 (by decide) rfl rfl (by rw [h0]; exact Nat.le_of_ble_eq_true rfl) (by first | omega | (intro _; rw [hk0 _ _ rfl]; exact Nat.le_of_ble_eq_true rfl)) (by repeat (first | exact trivial | refine And.intro (mvL_imms _ _ _ _ _) ?_ | refine And.intro rfl ?_))).trans (qSL 3 rfl rfl))))
def nwR (f : FuncId) : Nat := bif Nat.beq f 34 then 4 else bif Nat.beq f 26 then 4 else bif Nat.beq f 29 then 1 else bif Nat.beq f 41 then 1 else 0
noncomputable def tbr (fr : Nat → List Nat) (hk : Nat → Bool) : Tb := ⟨Pv.look tdl, eqs, fun _ => none, fr, hk, nwR⟩
noncomputable abbrev tbrf (fr : Nat → List Nat) : Tb := tbr fr fun _ => false
noncomputable abbrev tbrk (hk : Nat → Bool) : Tb := tbr (fun _ => []) hk
noncomputable abbrev tbr0 : Tb := tbrf fun _ => []
theorem tbr_ok {fr : Nat → List Nat} {hk : Nat → Bool} : ∀ t d, (tbr fr hk).td t = some d → tdOf Try.prog t = some d := Pv.look_ok tdl_ok
theorem addG_take {l : List Gz} {k : Nat} {x : Gz} (hx : l[k]? = some x) (r : Rg) : (l.take (k + 1)).foldl addG r = addG ((l.take k).foldl addG r) x := by
 rw [take_at hx, List.foldl_append, List.foldl_cons, List.foldl_nil]
abbrev rgB2 (r : Rg) : List Blk := [.map (.int .i64) 2 (mkL kI acv r.acts), .map (.int .i64) 2 (mkL kI IV.bool r.reps), .map kkC 2 (mkL kv2 eiv r.cors)]
def SmG (g : Gz) : Prop := g.acts.length ≤ 1000000 ∧ ∀ a ∈ g.acts, SmA a
end Go.Proofs.Ytglkpmhamekpmaa.Po
