/-
  What the rows' condition on the laid tables gives the walks; a start that meets it.
-/
import Derived.Test.YtmnbobcgjnickaaGreatDoorRows
import Derived.Test.YtmnbobcgjnickaaGreatDoorTie
import Derived.Test.YtmnbobcgjnickaaGreatDoorCards
import Derived.Lay
import Derived.Stop.LaidErr
import Derived.HandedShaped
import Derived.SizedLaws
import Derived.ProofKit
import Derived.LaidMore
import Derived.OpenShut
import Derived.ShutString
import Derived.Stop.Joined
import Derived.SevenTiedAt
import Derived.Lib.LaidU8
import Derived.Test.YtmnbobcgjnickaaGreatDoorSec
namespace Go.Proofs.YtmnbobcgjnickaaGreatDoor
open Go.ChangeShapes Go.WideShapes Go.ChangeAt Go.RowKit
open Go.Lib (VarReads)
theorem own : ownKnob Tryz.prog.godebug = none := by kernel_rfl
theorem first_data : Rows.laid_unicode_utf8_first = Lib.firstData := by kernel_rfl
theorem accept_data : Rows.laid_unicode_utf8_acceptRanges (H := Unit) = Lib.acceptData := by kernel_rfl
theorem u8x : U8Extra Tryz.prog Tryz.lays260_ren := ⟨by kernel_rfl, by kernel_rfl, by kernel_rfl, by kernel_rfl, by kernel_rfl, by kernel_rfl, by kernel_rfl⟩
theorem gNe : Tryz.prog.globalNamed "pandect/unit.nesting" = some 0 := by kernel_rfl
theorem tNe : (Tryz.prog.globals[0]?).map (·.type) = some 106 := by kernel_rfl
theorem cSli : Tryz.prog.cellsOf 105 = 1 := by kernel_rfl
theorem cIn : Tryz.prog.cellsOf 3 = 1 := by kernel_rfl
theorem cell_lt {W : World} {a : Addr} {v : Value} (h : W.cell? a = some v) : a.block < W.heap.size := by
 rcases Nat.lt_or_ge a.block W.heap.size with h1 | h1
 · exact h1
 · unfold World.cell? at h
   rw [Array.getElem?_eq_none h1] at h
   simp at h
theorem ne_data : ∀ k, k < 8 → (match (Rows.laid_pandect_unit_nesting (H := Unit)) with | .agg l => l[k]? | _ => none) = some (.slice ((nestL k).map fun z => .lit (.int .i64 z)) []) := by
 intro k hk
 match k, hk with
 | 0, _ => rfl
 | 1, _ => rfl
 | 2, _ => rfl
 | 3, _ => rfl
 | 4, _ => rfl
 | 5, _ => rfl
 | 6, _ => rfl
 | 7, _ => rfl
 | n + 8, h => omega
set_option maxRecDepth 100000 in
theorem tabN_of {W : World} (h : VarReads Tryz.prog W "pandect/unit.nesting" Rows.laid_pandect_unit_nesting) : TabN W := by
 obtain ⟨g, t, cs, fuel, p, hg, ht, hv, hd⟩ := h
 obtain rfl := Option.some.inj (gNe.symm.trans hg)
 obtain rfl := Option.some.inj (tNe.symm.trans ht)
 obtain ⟨xs, m, _, hx, hcl, hxl, hf⟩ := DataW.trod_array Tryz.underlying106 hd
 have hx1 : Rows.laid_pandect_unit_nesting = .agg (xs.map (·.1)) := congrArg Prod.fst hx
 have key : ∀ k, k < 8 → ∃ (A : Option Addr) (n c : Nat), W.cell? ⟨0, k, none⟩ = some (.slice A n c) ∧ n = (nestL k).length ∧ (0 < n → ∃ b off, A = some ⟨b, off, none⟩ ∧ b < W.heap.size ∧ ∀ j, j < n → W.cell? ⟨b, off + j, none⟩ = some (.int .i64 ((nestL k).getD j 0))) := by
   intro k hk
   have h1 := hf k hk
   rw [cSli, List.getElem?_eq_getElem (by omega)] at h1
   have hl := ne_data k hk
   rw [hx1] at hl
   simp only [List.getElem?_map, List.getElem?_eq_getElem (show k < xs.length by omega), Option.map_some, Option.some.injEq] at hl
   have h5 := World.var?_cell gNe hv k
   rcases DataW.trod_slice Tryz.underlying105 h1 with ⟨_, hy⟩ | ⟨x, len, cap, elems, rest, n, _, hcs, hy, _, hlc, hm, hel, hall, _, _⟩
   · rw [hy] at hl
     cases hl
   · have h2 : (xs[k]'(by omega)).1 = .slice (elems.map (·.1)) (rest.map (·.1)) := congrArg Prod.fst hy
     rw [h2] at hl
     injection hl with hl1 hl2
     have hlen : len = (nestL k).length := by
       have := congrArg List.length hl1
       simpa [hel] using this
     refine ⟨some x, len, cap, ?_, hlen, fun h0 => ?_⟩
     · rw [h5]
       have h6 := congrArg (·[0]?) hcs
       simp only [List.getElem?_take, List.getElem?_drop] at h6
       simpa using h6
     · have hc : ∀ j, j < len → W.cell? (x.add j) = some (.int .i64 ((nestL k).getD j 0)) := by
         intro j hj
         have g1 := hall j hj
         rw [List.getElem?_eq_getElem (by omega)] at g1
         obtain ⟨cs', g2, g3⟩ := Option.bind_eq_some_iff.1 g1
         rw [cIn, Nat.mul_one] at g2
         obtain ⟨_, hlen', hcell⟩ := World.cells?_some g2
         obtain ⟨z, e1, e2, _⟩ := DataW.trod_int Tryz.underlying3 g3
         have g4 := hcell 0 (by omega)
         rw [e1] at g4
         have g5 : (elems[j]'(by omega)).1 = .lit (.int .i64 z) := congrArg Prod.fst e2
         have g6 := congrArg (·[j]?) hl1
         simp only [List.getElem?_map, List.getElem?_eq_getElem (show j < elems.length by omega), List.getElem?_eq_getElem (show j < (nestL k).length by omega), Option.map_some, Option.some.injEq] at g6
         rw [g5] at g6
         injection g6 with g6
         injection g6 with _ g6
         rw [show (nestL k).getD j 0 = z by rw [List.getD, List.getElem?_eq_getElem (show j < (nestL k).length by omega)]; exact g6.symm]
         simpa [Addr.add] using g4
       obtain ⟨b, off, rfl⟩ := spot_of (hc 0 h0)
       have hc' : ∀ j, j < len → W.cell? ⟨b, off + j, none⟩ = some (.int .i64 ((nestL k).getD j 0)) := fun j hj => by have := hc j hj; rwa [Go.WideShapes.add_plain] at this
       exact ⟨b, off, rfl, cell_lt (hc' 0 h0), hc'⟩
 obtain ⟨A, n, c, hc, _⟩ := key 0 (by decide)
 exact ⟨cell_lt hc, key⟩
theorem wrap {H : Type} {enc : TypeId × Value → H} {a : Assume} {C : Checked} {os : Os} {f : FuncId} {fn : Func} {s : ChangeSpec} {conds : List PathCond} {apart fresh handsOn again : Bool} {X : World → Array Value → Prop}
   (hX : ∀ (w w' : World) (args : Array Value), w.heap = w'.heap → X w args → X w' args)
   (own : ownKnob C.prog.godebug = none) (started : os.Started) (noInit : C.prog.inits.idxOf? f = none) (hfn : C.prog.funcs[f]? = some fn)
   (wit : ∃ (w : World) (tape : Tape) (i : Input), w.os = os ∧ (w.forCall tape i).Shaped C.prog ∧ i.vars = [] ∧ Input.okWide C.prog (w.forCall tape i) .any w.heap.size f i ∧
     ((s.pre enc C.prog fn conds apart (w.forCall tape i).memory i.args ∧ X (w.forCall tape i).memory i.args) ∧ sizedMet enc C.prog fn (OpenSpec.ofChange s) apart (w.forCall tape i).memory i.args) ∧ a.holds C.prog (lone (Frame.enter C.prog f i.args .normal) [] (w.forCall tape i)))
   (k : ∀ (W : World) (base : Nat) (args : Array Value) (ds gs : List (DataW H)) (before : List MemPlace),
     (∀ (j : Nat) t v, fn.params[j]? = some t → args[j]? = some v → Value.okWide C.prog W .any base t v) →
     DataW.Whole enc C.prog fn.params.toList s.vars apart W args.toList ds gs before →
     (DataW.weightsEach C.prog (fn.params.toList ++ s.plain.varTypes C.prog) (ds ++ gs)).all (· ≤ reachBytes) = true → X W args → W.ShapedOpen C.prog →
     Calls C.prog f args W fun e W' => ∃ v, e = .returned v ∧ s.post enc C.prog fn apart fresh handsOn again W args v W') :
   ReturnsInHanded a C os f .any (fun w args => (s.pre enc C.prog fn conds apart w args ∧ X w args) ∧ sizedMet enc C.prog fn (OpenSpec.ofChange s) apart w args) (s.post enc C.prog fn apart fresh handsOn again) := by
 refine returnsInHanded_of_calls own started noInit wit fun w tape i _ hsh _ hok hpre _ => ?_
 obtain ⟨_, _, _, g, hg, _, _, _, _, hval⟩ := hok
 obtain rfl : g = fn := Option.some.inj (hg.symm.trans hfn)
 obtain ⟨⟨⟨ds, gs, before, hw, _⟩, hx⟩, hz⟩ := hpre
 refine (k (w.forCall tape i) w.heap.size i.args ds gs before hval (DataW.Whole.of_heap (w' := w.forCall tape i) (by rfl) hw) (hz.weights hw) (hX _ _ _ (by rfl) hx) hsh).mono fun e W' ⟨v, he, hp⟩ => ?_
 subst he
 exact ChangeSpec.post_blind hp
theorem laidOut : laidOutB Tryz.prog = true := by kernel_rfl
end Go.Proofs.YtmnbobcgjnickaaGreatDoor
