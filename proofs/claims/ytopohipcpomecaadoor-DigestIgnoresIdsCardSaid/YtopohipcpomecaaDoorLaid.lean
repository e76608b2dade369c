/-
  What the rows' condition on the laid tables is of; the wrap of such rows.
-/
import Derived.Test.YtopohipcpomecaaDoorRows
import Derived.Test.YtopohipcpomecaaDoorTie
import Derived.Test.YtopohipcpomecaaDoorCards
import Derived.Lay
import Derived.Stop.LaidErr
import Derived.HandedShaped
import Derived.SizedLaws
import Derived.ProofKit
import Derived.LaidMore
import Derived.OpenShut
import Derived.ShutString
import Derived.Stop.Joined
import Derived.SevenTiedAt
import Derived.Test.YtopohipcpomecaaDoorWDa
namespace Go.Proofs.YtopohipcpomecaaDoor
open Go.ChangeShapes Go.WideShapes Go.ChangeAt Go.RowKit Go.Pv
theorem own : ownKnob Tryd.prog.godebug = none := by kernel_rfl
theorem wrap {H : Type} {enc : TypeId × Value → H} {a : Assume} {C : Checked} {os : Os} {f : FuncId} {fn : Func} {s : ChangeSpec} {conds : List PathCond} {apart fresh handsOn again : Bool} {X : World → Array Value → Prop}
   (hX : ∀ (w w' : World) (args : Array Value), w.heap = w'.heap → X w args → X w' args)
   (own : ownKnob C.prog.godebug = none) (started : os.Started) (noInit : C.prog.inits.idxOf? f = none) (hfn : C.prog.funcs[f]? = some fn)
   (wit : ∃ (w : World) (tape : Tape) (i : Input), w.os = os ∧ (w.forCall tape i).Shaped C.prog ∧ i.vars = [] ∧ Input.okWide C.prog (w.forCall tape i) .any w.heap.size f i ∧
     ((s.pre enc C.prog fn conds apart (w.forCall tape i).memory i.args ∧ X (w.forCall tape i).memory i.args) ∧ sizedMet enc C.prog fn (OpenSpec.ofChange s) apart (w.forCall tape i).memory i.args) ∧ a.holds C.prog (lone (Frame.enter C.prog f i.args .normal) [] (w.forCall tape i)))
   (k : ∀ (W : World) (base : Nat) (args : Array Value) (ds gs : List (DataW H)) (before : List MemPlace),
     (∀ (j : Nat) t v, fn.params[j]? = some t → args[j]? = some v → Value.okWide C.prog W .any base t v) →
     DataW.Whole enc C.prog fn.params.toList s.vars apart W args.toList ds gs before →
     (DataW.weightsEach C.prog (fn.params.toList ++ s.plain.varTypes C.prog) (ds ++ gs)).all (· ≤ reachBytes) = true → X W args → W.ShapedOpen C.prog →
     Calls C.prog f args W fun e W' => ∃ v, e = .returned v ∧ s.post enc C.prog fn apart fresh handsOn again W args v W') :
   ReturnsInHanded a C os f .any (fun w args => (s.pre enc C.prog fn conds apart w args ∧ X w args) ∧ sizedMet enc C.prog fn (OpenSpec.ofChange s) apart w args) (s.post enc C.prog fn apart fresh handsOn again) := by
 refine returnsInHanded_of_calls own started noInit wit fun w tape i _ hsh _ hok hpre _ => ?_
 obtain ⟨_, _, _, g, hg, _, _, _, _, hval⟩ := hok
 obtain rfl : g = fn := Option.some.inj (hg.symm.trans hfn)
 obtain ⟨⟨⟨ds, gs, before, hw, _⟩, hx⟩, hz⟩ := hpre
 refine (k (w.forCall tape i) w.heap.size i.args ds gs before hval (DataW.Whole.of_heap (w' := w.forCall tape i) (by rfl) hw) (hz.weights hw) (hX _ _ _ (by rfl) hx) hsh).mono fun e W' ⟨v, he, hp⟩ => ?_
 subst he
 exact ChangeSpec.post_blind hp
theorem laidOut : laidOutB Tryd.prog = true := by kernel_rfl
def tabs : List (String × DataW Unit) := [("math/bits.deBruijn32tab", Rows.laid_math_bits_deBruijn32tab), ("math/bits.deBruijn64tab", Rows.laid_math_bits_deBruijn64tab), ("internal/strconv.uint64pow10", Rows.laid_internal_strconv_uint64pow10)]
theorem gPow : Tryd.prog.globalNamed "internal/strconv.uint64pow10" = some 0 := by kernel_rfl
theorem tPow : (Tryd.prog.globals[0]?).map (·.type) = some 112 := by kernel_rfl
theorem cPow : Tryd.prog.cellsOf 112 = 20 := by kernel_rfl
theorem cU64 : Tryd.prog.cellsOf 44 = 1 := by kernel_rfl
theorem pow_data : Rows.laid_internal_strconv_uint64pow10 (H := Unit) = Lib.tabData .u64 Lib.pow10Tab := rfl
theorem gBru : Tryd.prog.globalNamed "math/bits.deBruijn64tab" = some 3 := by kernel_rfl
theorem tBru : (Tryd.prog.globals[3]?).map (·.type) = some 128 := by kernel_rfl
theorem cBru : Tryd.prog.cellsOf 128 = 64 := by kernel_rfl
theorem cU8 : Tryd.prog.cellsOf 5 = 1 := by kernel_rfl
theorem bru_data : Rows.laid_math_bits_deBruijn64tab (H := Unit) = Lib.tabData .u8 Pd.tzs := rfl
theorem RepC_ints {Q : Nat → Prop} {w : World} {k : IntKind} : ∀ zs : List Int, RepC Q w (zs.map (IV.int k)) (zs.map (Value.int k))
 | [] => by simp [RepC]
 | z :: zs => by
   simp only [List.map_cons]
   unfold RepC
   exact ⟨_, _, rfl, rfl, by unfold RepI; rfl, RepC_ints zs⟩
theorem tab_of_laid {W : World} (h : laidMetH Tryd.prog tabs W) : Pd.TabD W ∧ GlOK (fun b => b < W.heap.size) W Pd.glD := by
 rw [MakeChecks.laidMetH_plain _ _ _ (by kernel_rfl)] at h
 obtain ⟨ps, ⟨g0, t0, cs0, f0, p0, q0, hg0, ht0, hv0, hd0, ⟨g1, t1, cs1, f1, p1, q1, hg1, ht1, hv1, hd1, ⟨g2, t2, cs2, f2, p2, q2, hg2, ht2, hv2, hd2, _, _⟩, _⟩, _⟩, _⟩ := h
 obtain rfl := Option.some.inj (gPow.symm.trans hg2)
 obtain rfl := Option.some.inj (tPow.symm.trans ht2)
 obtain rfl := Option.some.inj (gBru.symm.trans hg1)
 obtain rfl := Option.some.inj (tBru.symm.trans ht1)
 rw [pow_data] at hd2
 rw [bru_data] at hd1
 have hB : Lib.TabIs Tryd.prog W "math/bits.deBruijn64tab" .u8 Pd.tzs := by
   unfold Lib.TabIs
   rw [hv1, ← Lib.cells_of_tab Tryd.underlying128 Tryd.underlying5 cU8 cBru hd1]
 refine ⟨?_, fun g cs hg => ?_⟩
 · unfold Pd.TabD Lib.TabIs
   rw [hv2, ← Lib.cells_of_tab Tryd.underlying112 Tryd.underlying44 cU64 cPow hd2]
 · unfold Pd.glD at hg
   split at hg
   · rename_i e
     subst e
     obtain rfl := Option.some.inj hg
     unfold Rep
     refine ⟨_, 0, Pd.tzs.map (Value.int .u8), rfl, World.block_lt_of_cell? _ _ (hB.cell gBru 0 (by decide)), RepC_ints _, fun j u hj => ?_⟩
     rw [Nat.zero_add]
     rw [List.getElem?_map] at hj
     cases hz : Pd.tzs[j]? with
     | none => rw [hz] at hj; cases hj
     | some z =>
       rw [hz] at hj
       obtain rfl := Option.some.inj hj
       have hlt := (List.getElem?_eq_some_iff.1 hz).1
       rw [hB.cell gBru j hlt, List.getD_eq_getElem?_getD, hz]
       rfl
   · cases hg
end Go.Proofs.YtopohipcpomecaaDoor
