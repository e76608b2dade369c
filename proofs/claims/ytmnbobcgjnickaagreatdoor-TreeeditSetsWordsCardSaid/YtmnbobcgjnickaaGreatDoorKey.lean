/-
  Keys of maps: steps and IDs.
-/
import Derived.DeepKeys4
import Derived.Maps.Own
import Derived.Maps.OwnSet
import Derived.Test.YtmnbobcgjnickaaGreatDoorFlt
namespace Go.Proofs.YtmnbobcgjnickaaGreatDoor
open Go.RowKit (wrap32 wrap64 intOf Hid Below)
open Lab Lcs
open Go.Maps Go.WideMaps
theorem laidOut' : laidOutB Tryz.prog = true := by kernel_rfl
theorem stepLaw : Keyed Tryz.prog 115 := Keyed.of_law (deep_law_laid laidOut' (m := 2) (by omega) (of_decide_eq_true (by kernel_rfl)) (by kernel_rfl) (by rw [Tryz.underlying115]))
theorem idLaw : Keyed Tryz.prog 23 := Keyed.of_law (deep_law_laid laidOut' (m := 2) (by omega) (of_decide_eq_true (by kernel_rfl)) (by kernel_rfl) (by rw [Tryz.underlying23]))
theorem wf_of {z : Int} (h : inI z) : (Lit.int .i64 z).wf = true := by
 unfold Lit.wf
 rw [Bool.and_eq_true, decide_eq_true_eq, decide_eq_true_eq]
 exact h
theorem step_cells : Tryz.prog.cellsOf 115 = 2 := by kernel_rfl
theorem step_key : Tryz.prog.keyType 115 = true := by kernel_rfl
theorem types_pos : ∃ m, Tryz.prog.types.size = m + 1 := ⟨Tryz.prog.types.size - 1, by have : 0 < Tryz.prog.types.size := of_decide_eq_true (by kernel_rfl); omega⟩
theorem cInt' : Tryz.prog.cellsOf 3 = 1 := by kernel_rfl
theorem cStr' : Tryz.prog.cellsOf 9 = 1 := by kernel_rfl
theorem id_cells : Tryz.prog.cellsOf 23 = 3 := by kernel_rfl
theorem id_key : Tryz.prog.keyType 23 = true := by kernel_rfl
set_option maxRecDepth 100000 in
theorem lits_step (m : Nat) (k : Int) (s : Str) (hk : inI k) (hs : s.size ≤ maxLen) : Tryz.prog.keyLits (m + 2) 115 [.int .i64 k, .string s] = some [.int .i64 k, .string s.data.toList] := by
 have h1 := wf_of hk
 unfold Program.keyLits
 rw [Tryz.underlying115]
 simp [step_cells, cInt', cStr', Program.keyLits, Tryz.underlying3, Tryz.underlying9, h1, hs]
set_option maxRecDepth 100000 in
theorem lits_id (m : Nat) (t : Trip) (ht : t.ok) : Tryz.prog.keyLits (m + 2) 23 [.int .i64 t.x, .int .i64 t.y, .int .i64 t.z] = some [.int .i64 t.x, .int .i64 t.y, .int .i64 t.z] := by
 obtain ⟨h1, h2, h3⟩ := ht
 have h1 := wf_of h1
 have h2 := wf_of h2
 have h3 := wf_of h3
 unfold Program.keyLits
 rw [Tryz.underlying23]
 simp [id_cells, cInt', Program.keyLits, Tryz.underlying3, h1, h2, h3]
def kst (x : Int × Str) : Lit := .string (keyBytes [.int .i64 x.1, .string x.2.data.toList])
def kid (t : Trip) : Lit := .string (keyBytes [.int .i64 t.x, .int .i64 t.y, .int .i64 t.z])
def okst (x : Int × Str) : Prop := inI x.1 ∧ x.2.size ≤ maxLen
set_option maxRecDepth 100000 in
theorem keyOf_step (x : Int × Str) (h : okst x) : keyOf Tryz.prog 115 (.agg #[.int .i64 x.1, .string x.2]) = some (kst x) := by
 obtain ⟨m, hm⟩ := types_pos
 unfold keyOf
 rw [Tryz.underlying115]
 simp only [step_key, Bool.true_and]
 rw [if_pos (by simp [Value.formed, Tryz.underlying115, step_cells]), hm]
 have := lits_step m x.1 x.2 h.1 h.2
 simp only [Value.cells]
 rw [this]
 rfl
set_option maxRecDepth 100000 in
theorem keyOf_id (t : Trip) (ht : t.ok) : keyOf Tryz.prog 23 (.agg #[.int .i64 t.x, .int .i64 t.y, .int .i64 t.z]) = some (kid t) := by
 obtain ⟨m, hm⟩ := types_pos
 unfold keyOf
 rw [Tryz.underlying23]
 simp only [id_key, Bool.true_and]
 rw [if_pos (by simp [Value.formed, Tryz.underlying23, id_cells]), hm]
 have := lits_id m t ht
 simp only [Value.cells]
 rw [this]
 rfl
set_option maxRecDepth 100000 in
theorem kst_inj {x y : Int × Str} (hx : okst x) (hy : okst y) (h : kst x = kst y) : x = y := by
 have h1 := keyOf_step x hx
 have h2 := keyOf_step y hy
 rw [h] at h1
 have h3 := stepLaw.inj h1 h2
 injection h3 with h3
 have e1 := congrArg (fun a => a[0]?) h3
 have e2 := congrArg (fun a => a[1]?) h3
 simp at e1 e2
 exact Prod.ext e1 e2
set_option maxRecDepth 100000 in
theorem kid_inj {x y : Trip} (hx : x.ok) (hy : y.ok) (h : kid x = kid y) : x = y := by
 have h1 := keyOf_id x hx
 have h2 := keyOf_id y hy
 rw [h] at h1
 have h3 := idLaw.inj h1 h2
 injection h3 with h3
 have e1 := congrArg (fun a => a[0]?) h3
 have e2 := congrArg (fun a => a[1]?) h3
 have e3 := congrArg (fun a => a[2]?) h3
 simp at e1 e2 e3
 cases x
 cases y
 simp only [Trip.mk.injEq]
 exact ⟨e1, e2, e3⟩
def inL {α : Type} [DecidableEq α] (K : List α) (x : α) : Bool := K.any fun y => decide (y = x)
theorem inL_iff {α : Type} [DecidableEq α] {K : List α} {x : α} : inL K x = true ↔ x ∈ K := by
 unfold inL
 rw [List.any_eq_true]
 constructor
 · rintro ⟨y, hy, e⟩
   rw [decide_eq_true_eq] at e
   exact e ▸ hy
 · exact fun h => ⟨x, h, decide_eq_true rfl⟩
theorem inL_snoc {α : Type} [DecidableEq α] (K : List α) (y x : α) : inL (K ++ [y]) x = (inL K x || decide (y = x)) := by
 unfold inL
 rw [List.any_append]
 simp
def SetA {α : Type} [DecidableEq α] (key : α → Lit) (ok : α → Prop) (D : DataW Unit) (K : List α) : Prop := IsMap D ∧ ∀ x, ok x → D.atKey (key x) (.lit (.bool false)) = .lit (.bool (inL K x))
theorem SetA.start {α : Type} [DecidableEq α] (key : α → Lit) (ok : α → Prop) : SetA key ok (.map []) [] := ⟨isMap_empty, fun _ _ => rfl⟩
set_option maxRecDepth 100000 in
theorem SetA.put {α : Type} [DecidableEq α] {key : α → Lit} {ok : α → Prop} {D : DataW Unit} {K : List α} (h : SetA key ok D K) (hinj : ∀ x y, ok x → ok y → key x = key y → x = y) (hkey : ∀ x, WideAt.IsKeyLit (key x)) (y : α) (hy : ok y) : SetA key ok (D.put (key y) (.lit (.bool true))) (K ++ [y]) := by
 refine ⟨h.1.put _ _, fun x hx => ?_⟩
 by_cases e : x = y
 · subst e
   rw [atKey_put_same h.1 (hkey _), inL_snoc, decide_eq_true rfl, Bool.or_true]
 · rw [atKey_put_other (fun e' => e (hinj _ _ hx hy e')), h.2 x hx, inL_snoc, decide_eq_false (fun e' => e e'.symm), Bool.or_false]
theorem kst_lit (x : Int × Str) : WideAt.IsKeyLit (kst x) := trivial
theorem kid_lit (x : Trip) : WideAt.IsKeyLit (kid x) := trivial
set_option maxRecDepth 100000 in
theorem bool_inv {v : Value} {x : Bool} {ps : List MemPlace} (h : plainElem (H := Unit) Tryz.prog 4 v = some (.lit (.bool x), ps)) : v = .bool x := by
 unfold plainElem at h
 rw [Tryz.underlying4] at h
 cases v <;> simp at h
 rw [h.1]
set_option maxRecDepth 100000 in
theorem look_step {W : World} {b n : Nat} {D : DataW Unit} {K : List (Int × Str)} (h : W.ownsMap Tryz.prog 115 (plainElem (H := Unit) Tryz.prog 4) b n D) (hs : SetA kst okst D K) (x : Int × Str) (hx : okst x) :
   (Instr.lookup 113 (.map (some b)) (.agg #[.int .i64 x.1, .string x.2]) false).run Tryz.prog W = .ok (.bool (inL K x)) W := by
 obtain ⟨v, ps, hrun, hv⟩ := h.lookup stepLaw Tryz.underlying113 (Tryz.zeroValue4 W) (plainElem_bool Tryz.underlying4 false) (keyOf_step x hx)
 rw [hs.2 x hx] at hv
 rw [hrun, bool_inv hv]
set_option maxRecDepth 100000 in
theorem look_id {W : World} {b n : Nat} {D : DataW Unit} {K : List Trip} (h : W.ownsMap Tryz.prog 23 (plainElem (H := Unit) Tryz.prog 4) b n D) (hs : SetA kid Trip.ok D K) (x : Trip) (hx : x.ok) :
   (Instr.lookup 53 (.map (some b)) (.agg #[.int .i64 x.x, .int .i64 x.y, .int .i64 x.z]) false).run Tryz.prog W = .ok (.bool (inL K x)) W := by
 obtain ⟨v, ps, hrun, hv⟩ := h.lookup idLaw Tryz.underlying53 (Tryz.zeroValue4 W) (plainElem_bool Tryz.underlying4 false) (keyOf_id x hx)
 rw [hs.2 x hx] at hv
 rw [hrun, bool_inv hv]
theorem map_below {kt : TypeId} {w w' : World} {b n : Nat} {D : DataW Unit} (h : w.ownsMap Tryz.prog kt (plainElem (H := Unit) Tryz.prog 4) b n D) (hb : Below w.heap.size w w') : w'.ownsMap Tryz.prog kt (plainElem (H := Unit) Tryz.prog 4) b n D := by
 have hlt := h.lt
 obtain ⟨es, clock, he, F, hs, hD⟩ := h
 exact ⟨es, clock, (hb.block b hlt).trans he, F, hs, hD⟩
end Go.Proofs.YtmnbobcgjnickaaGreatDoor
