/-
  What the rows' condition on the laid tables gives the walks; a start that meets it.
-/
import Derived.Test.YtkiafejjcchofaaDoorRows
import Derived.Test.YtkiafejjcchofaaDoorTie
import Derived.Test.YtkiafejjcchofaaDoorCards
import Derived.Test.YtkiafejjcchofaaDoorLater
import Derived.Deep.SlicePairs
import Derived.SizedLaws
import Derived.ProofKit
import Derived.LaidMore
import Derived.OpenShut
import Derived.ShutString
import Derived.Stop.Joined
import Derived.SevenTiedAt
namespace Go.Proofs.YtkiafejjcchofaaDoor
open Go.ChangeShapes Go.WideShapes Go.ChangeAt Go.RowKit
open Spans

theorem own : ownKnob Tryd.prog.godebug = none := by kernel_rfl
/-- The list of laid tables that every row of this seat bears. -/
def tabs : List (String × DataW Unit) := [("math/bits.deBruijn32tab", Rows.laid_math_bits_deBruijn32tab), ("math/bits.deBruijn64tab", Rows.laid_math_bits_deBruijn64tab), ("internal/strconv.uint64pow10", Rows.laid_internal_strconv_uint64pow10)]
theorem gPow : Tryd.prog.globalNamed "internal/strconv.uint64pow10" = some 1 := by kernel_rfl
theorem tPow : (Tryd.prog.globals[1]?).map (·.type) = some 108 := by kernel_rfl
theorem cPow : Tryd.prog.cellsOf 108 = 20 := by kernel_rfl
theorem cU64 : Tryd.prog.cellsOf 87 = 1 := by kernel_rfl
theorem pow_data : Rows.laid_internal_strconv_uint64pow10 (H := Unit) = Lib.tabData .u64 Lib.pow10Tab := rfl

theorem tab_of_laid {W : World} (h : laidMetH Tryd.prog tabs W) : Tab W := by
  rw [MakeChecks.laidMetH_plain _ _ _ (by kernel_rfl)] at h
  obtain ⟨ps, ⟨g0, t0, cs0, f0, p0, q0, hg0, ht0, hv0, hd0, ⟨g1, t1, cs1, f1, p1, q1, hg1, ht1, hv1, hd1, ⟨g2, t2, cs2, f2, p2, q2, hg2, ht2, hv2, hd2, _, _⟩, _⟩, _⟩, _⟩ := h
  obtain rfl := Option.some.inj (gPow.symm.trans hg2)
  obtain rfl := Option.some.inj (tPow.symm.trans ht2)
  rw [pow_data] at hd2
  unfold Tab Lib.TabIs
  rw [hv2, ← Lib.cells_of_tab Tryd.underlying108 Tryd.underlying87 cU64 cPow hd2]

theorem door_met (os : Os) (args : Array Value) : laidMetH Tryd.prog tabs ((World.doorLaid Tryd.prog 400 os).forCall (fun _ _ => 0) ⟨#[], args, []⟩).memory :=
  laidMetH_of_parts3 (fuel := 8) (laidMet_of_run' 8 (by kernel_rfl) (by kernel_rfl)) (by kernel_rfl) (by kernel_rfl)

section
variable {H : Type} {enc : TypeId × Value → H} {P : Program}
/-- The last step of a row whose call leaves all that lay there, its results new: only the marks of the places that were read are asked. -/
theorem post_low {f : Func} {s : ChangeSpec} {ap fr ho ag : Bool} {W W' : World} {args : Array Value} {v : Value} {ds gs : List (DataW H)} {ps : List MemPlace}
    (hW : DataW.Whole enc P f.params.toList s.vars ap W args.toList ds gs ps) (hb : Below W.heap.size W W')
    (hr : ∀ (b : Nat) (sp : Nat → Bool) (hd : Bool), DataW.TrodAll enc P W' b sp hd f.resultTypes.toList (v.resultList f.resultTypes.size) (s.fn H (ds ++ gs)).results [])
    (ha : ∀ sp : Nat → Bool, (∀ p ∈ ps, sp p.block = true) → DataW.TrodAll enc P W' 0 sp true f.params.toList args.toList (s.fn H (ds ++ gs)).args ps)
    (hv : ∀ sp : Nat → Bool, DataW.TrodVars enc P W' sp s.vars (s.fn H (ds ++ gs)).vars [])
    (ho' : ∀ (j : Nat) (t : TypeId) (r : Value), f.resultTypes[j]? = some t → (v.resultList f.resultTypes.size)[j]? = some r → Value.okWide P W' .any 0 t r) :
    s.post enc P f ap fr ho ag W args v W' := by
  have low : ∀ p ∈ ps, p.block < W.heap.size := fun p hp => hW.lt p hp
  have both := trodAll_append (ha (fun _ => true) (fun _ _ => rfl)) (hr 0 (fun _ => true) true)
  obtain ⟨_, _, _, _, _, hz, hn⟩ := id hW
  refine ⟨ds, gs, ps, [], ps, [], hW, hr _ _ _, ha _ (fun p hp => by simpa using low p hp), hv _, World.keptBut_mono (fun p hp => hp.elim) (hb.frame fun _ => False), fun _ => ⟨ho', _, _, ([] ++ ps) ++ [], ⟨[] ++ ps, [], both, hv _, rfl, ?_, ?_⟩, ?_⟩⟩
  · intro b off hp
    have hp' : MemPlace.cell b off ∈ ps := by simpa using hp
    exact (hb.frozen (low _ hp')).trans (hz b off hp')
  · intro h
    simpa using hn h
  · intro p hp _
    simpa using hp
end
theorem laidOut : laidOutB Tryd.prog = true := by kernel_rfl
theorem cSpan : Tryd.prog.cellsOf 42 = 2 := by kernel_rfl
theorem cInt : Tryd.prog.cellsOf 3 = 1 := by kernel_rfl
theorem bSpan : Tryd.prog.bytesOf 42 = 16 := by kernel_rfl
/-- A slice of spans that came in, as the walks read it. -/
theorem spans_open {H : Type} {enc : TypeId × Value → H} {W : World} {a : Option Addr} {n c : Nat} {d : DataW H} {p : List MemPlace}
    (h : ∃ fuel, DataW.trod enc Tryd.prog W 0 (fun _ => true) true fuel 22 (Value.slice a n c).cells.toList = some (d, p)) (lt : ∀ x ∈ p, x.block < W.heap.size)
    (hz : ∀ elems spare, d = .slice elems spare → (elems.length + spare.length) * Tryd.prog.bytesOf 42 ≤ reachBytes) :
    ∃ L, SpansAt W.heap.size W a n L ∧ n ≤ 8796093022207 := by
  obtain ⟨fuel, hf⟩ := h
  rcases Deep.open_slice_pairs Tryd.underlying22 Tryd.underlying42 cSpan rfl rfl cInt cInt hf with ⟨hcs, _⟩ | ⟨x, l, k, m, g, V0, V1, D0, D1, P0, P1, hcs, _, hl, hm, hmm, hx, hc⟩
  · simp [Value.cells] at hcs
    obtain ⟨rfl, rfl, rfl⟩ := hcs
    exact ⟨[], ⟨rfl, fun h => absurd h (by omega)⟩, by omega⟩
  · simp [Value.cells] at hcs
    obtain ⟨rfl, rfl, rfl⟩ := hcs
    rw [if_pos rfl] at hmm
    subst hmm
    obtain ⟨rfl, rfl⟩ := Prod.mk.inj hx
    have hr := hz _ _ rfl
    rw [bSpan, List.length_map, List.length_map, List.length_range, List.length_range] at hr
    have hn : n ≤ 8796093022207 := by unfold reachBytes at hr; omega
    by_cases h0 : n = 0
    · subst h0
      exact ⟨[], ⟨rfl, fun h => absurd h (by omega)⟩, by omega⟩
    have spot := World.cell?_spot (hc 0 (by omega)).1
    obtain ⟨b, off, sp⟩ := x
    have hsp : sp = none := by simpa [Addr.add] using spot
    subst hsp
    have vals : ∀ i, i < m → ∃ z : Int × Int, V0 i = .int .i64 z.1 ∧ V1 i = .int .i64 z.2 := by
      intro i hi
      obtain ⟨_, _, h0, h1⟩ := hc i hi
      obtain ⟨z0, e0, _⟩ := DataW.trod_int Tryd.underlying3 h0
      obtain ⟨z1, e1, _⟩ := DataW.trod_int Tryd.underlying3 h1
      exact ⟨(z0, z1), by simpa using e0, by simpa using e1⟩
    obtain ⟨z, hzz⟩ := Deep.choose_lt vals
    have hlt : b < W.heap.size := lt (.cell b (off + 0)) (List.mem_append_left _ (List.mem_map.2 ⟨0, by simp; omega, rfl⟩))
    refine ⟨(List.range n).map z, ⟨by simp, fun _ => ⟨b, off, rfl, hlt, fun k hk => ?_⟩⟩, hn⟩
    obtain ⟨e0, e1, _, _⟩ := hc k (by omega)
    rw [(hzz k (by omega)).1] at e0
    rw [(hzz k (by omega)).2] at e1
    rw [Go.WideShapes.add_plain] at e0 e1
    refine ⟨?_, ?_⟩
    · show W.cell? ⟨b, off + k * 2, none⟩ = _
      rw [e0]
      unfold fr
      simp [List.getD, hk]
    · show W.cell? ⟨b, off + k * 2 + 1, none⟩ = _
      rw [show off + k * 2 + 1 = off + (k * 2 + 1) by omega, e1]
      unfold to
      simp [List.getD, hk]
end Go.Proofs.YtkiafejjcchofaaDoor
