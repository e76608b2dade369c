/-
  Plain values: what the memory of a call holds, said without memory. Definitions, and that they stay true when memory grows. Plain values: the types of a program, and what one operation does to plain values. Plain values: what a new block and a store do to a state. Plain values: that an operation does to memory what 'absOp' says.
-/
import Derived.Calls
import Derived.Orders
import Derived.Below
import Derived.Laws.AppendOwn
import Derived.Deep.Draws
import Derived.Laws.Tables
import Derived.Laws.Entries
namespace Go.Pv
open Go.RowKit (Below)

/-- A value that never changes again: its memory is written by nobody. -/
inductive IV
  | bool (b : Bool)
  | int (k : IntKind) (z : Int)
  | str (s : ByteArray)
  | fn (f : FuncId)
  | nil
  | np
  | agg (cs : List IV)
  | sl (sz : Nat) (es : List IV)
  deriving Inhabited
/-- A value of a running call. -/
inductive PV
  | any
  | imm (i : IV)
  | agg (cs : List PV)
  | tup (cs : List PV)
  | ptr (r g o : Nat)
  | row (r g : Nat)
  | eptr (r g sz i o : Nat)
  | iptr (cs : List IV)
  | clo (f : FuncId) (cs : List PV)
  deriving Inhabited
/-- A block of the call's own. -/
inductive Blk
  | dead (g : Nat)
  | box (g : Nat) (cs : List PV)
  | row (e : TypeId) (sz g : Nat) (es : List PV)
  deriving Inhabited

/-- A value of one cell. -/
def one (v : Value) : Prop := v.oneCell' = true

section imm
variable (Q : Nat → Prop) (w : World)
mutual
def RepI : IV → Value → Prop
  | .bool b, v => v = .bool b
  | .int k z, v => v = .int k z
  | .str s, v => v = .string s
  | .fn f, v => v = .func (.func f) #[] #[]
  | .nil, v => v = .slice none 0 0
  | .np, v => v = .pointer none
  | .agg cs, v => ∃ vs : List Value, v = .agg vs.toArray ∧ RepC cs vs
  | .sl sz es, v => ∃ (a : Option Addr) (c : Nat), v = .slice a es.length c ∧ es.length ≤ c ∧ c ≤ maxLen ∧ (0 < es.length → ∃ b off, a = some ⟨b, off, none⟩ ∧ Q b ∧ RepR sz b off es)
def RepC : List IV → List Value → Prop
  | [], vs => vs = []
  | c :: cs, vs => ∃ v r, vs = v :: r ∧ one v ∧ RepI c v ∧ RepC cs r
def RepR (sz b : Nat) : Nat → List IV → Prop
  | _, [] => True
  | off, e :: es => (∃ v, RepI e v ∧ v.cells.size = sz ∧ ∀ j u, v.cells[j]? = some u → w.cell? ⟨b, off + j, none⟩ = some u) ∧ RepR sz b (off + sz) es
end
end imm

structure K where
  ρ : Nat → Value
  G : Nat → Nat
  Q : Nat → Prop
/-- The block that a value begins in. -/
def base : Value → Option Nat
  | .pointer (some a) => some a.block
  | .slice (some a) _ _ => some a.block
  | _ => none
/-- What is known of a reference, while it is of the newest kind. -/
def Ref (k : K) (n r g : Nat) (p : Value → Prop) : Prop := r < n ∧ g ≤ k.G r ∧ (g = k.G r → p (k.ρ r))
section
variable (k : K) (n : Nat) (w : World)
mutual
def Rep : PV → Value → Prop
  | .any, _ => True
  | .imm i, v => RepI k.Q w i v
  | .agg cs, v => ∃ vs : List Value, v = .agg vs.toArray ∧ RepL cs vs
  | .tup cs, v => ∃ vs : List Value, v = .tuple vs.toArray ∧ RepT cs vs
  | .ptr r g o, v => one v ∧ Ref k n r g fun x => ∃ b, base x = some b ∧ v = .pointer (some ⟨b, o, none⟩)
  | .row r g, v => one v ∧ Ref k n r g fun x => v = x
  | .eptr r g sz i o, v => one v ∧ Ref k n r g fun x => ∃ b, base x = some b ∧ v = .pointer (some ⟨b, i * sz + o, none⟩)
  | .iptr cs, v => ∃ b off vs, v = .pointer (some ⟨b, off, none⟩) ∧ k.Q b ∧ RepC k.Q w cs vs ∧ ∀ j u, vs[j]? = some u → w.cell? ⟨b, off + j, none⟩ = some u
  | .clo f cs, v => ∃ vs : List Value, v = .func (.func f) #[] vs.toArray ∧ RepT cs vs
def RepL : List PV → List Value → Prop
  | [], vs => vs = []
  | c :: cs, vs => ∃ v r, vs = v :: r ∧ one v ∧ Rep c v ∧ RepL cs r
def RepT : List PV → List Value → Prop
  | [], vs => vs = []
  | c :: cs, vs => ∃ v r, vs = v :: r ∧ Rep c v ∧ RepT cs r
end
end

/-- What changes while a call runs. -/
structure Ext (k : K) (n : Nat) (w : World) (k' : K) (n' : Nat) (w' : World) : Prop where
  le : n ≤ n'
  q : ∀ b, k.Q b → k'.Q b ∧ w'.heap[b]? = w.heap[b]?
  r : ∀ r, r < n → k.G r ≤ k'.G r ∧ (k'.G r = k.G r → k'.ρ r = k.ρ r)
theorem Ext.refl (k : K) (n : Nat) (w : World) : Ext k n w k n w := ⟨Nat.le_refl _, fun _ h => ⟨h, rfl⟩, fun _ _ => ⟨Nat.le_refl _, fun _ => rfl⟩⟩
theorem Ext.trans {k k' k'' : K} {n n' n'' : Nat} {w w' w'' : World} (h : Ext k n w k' n' w') (h' : Ext k' n' w' k'' n'' w'') : Ext k n w k'' n'' w'' := by
  refine ⟨Nat.le_trans h.le h'.le, fun b hb => ?_, fun r hr => ?_⟩
  · obtain ⟨h1, h2⟩ := h.q b hb
    obtain ⟨h3, h4⟩ := h'.q b h1
    exact ⟨h3, h4.trans h2⟩
  · obtain ⟨h1, h2⟩ := h.r r hr
    obtain ⟨h3, h4⟩ := h'.r r (Nat.lt_of_lt_of_le hr h.le)
    refine ⟨Nat.le_trans h1 h3, fun e => ?_⟩
    have e1 : k'.G r = k.G r := Nat.le_antisymm (e ▸ h3) h1
    exact (h4 (e.trans e1.symm)).trans (h2 e1)
mutual
theorem RepI_mono {Q Q' : Nat → Prop} {w w' : World} (h : ∀ b, Q b → Q' b ∧ w'.heap[b]? = w.heap[b]?) : ∀ (i : IV) (v : Value), RepI Q w i v → RepI Q' w' i v
  | .bool _, _, hi => by simpa [RepI] using hi
  | .int _ _, _, hi => by simpa [RepI] using hi
  | .str _, _, hi => by simpa [RepI] using hi
  | .fn _, _, hi => by simpa [RepI] using hi
  | .nil, _, hi => by simpa [RepI] using hi
  | .np, _, hi => by simpa [RepI] using hi
  | .agg cs, v, hi => by
    unfold RepI at hi ⊢
    obtain ⟨vs, e, hc⟩ := hi
    exact ⟨vs, e, RepC_mono h cs vs hc⟩
  | .sl sz es, v, hi => by
    unfold RepI at hi ⊢
    obtain ⟨a, c, e, h1, h2, h3⟩ := hi
    refine ⟨a, c, e, h1, h2, fun hp => ?_⟩
    obtain ⟨b, off, ea, hq, hr⟩ := h3 hp
    exact ⟨b, off, ea, (h b hq).1, RepR_mono h (h b hq).2 sz off es hr⟩
theorem RepC_mono {Q Q' : Nat → Prop} {w w' : World} (h : ∀ b, Q b → Q' b ∧ w'.heap[b]? = w.heap[b]?) : ∀ (cs : List IV) (vs : List Value), RepC Q w cs vs → RepC Q' w' cs vs
  | [], _, hc => by simpa [RepC] using hc
  | c :: cs, vs, hc => by
    unfold RepC at hc ⊢
    obtain ⟨v, r, e, h1, h2, h3⟩ := hc
    exact ⟨v, r, e, h1, RepI_mono h c v h2, RepC_mono h cs r h3⟩
theorem RepR_mono {Q Q' : Nat → Prop} {w w' : World} {b : Nat} (h : ∀ b, Q b → Q' b ∧ w'.heap[b]? = w.heap[b]?) (hb : w'.heap[b]? = w.heap[b]?) (sz : Nat) : ∀ (off : Nat) (es : List IV), RepR Q w sz b off es → RepR Q' w' sz b off es
  | _, [], _ => by unfold RepR; trivial
  | off, e :: es, hr => by
    unfold RepR at hr ⊢
    obtain ⟨⟨v, h1, h2, h3⟩, h4⟩ := hr
    exact ⟨⟨v, RepI_mono h e v h1, h2, fun j u hj => (World.cell?_of_block (w := w) (w' := w') (a := ⟨b, off + j, none⟩) hb).trans (h3 j u hj)⟩, RepR_mono h hb sz (off + sz) es h4⟩
end
theorem Ref.mono {k k' : K} {n n' r g : Nat} {w w' : World} {p : Value → Prop} (h : Ext k n w k' n' w') (hr : Ref k n r g p) : Ref k' n' r g p := by
  obtain ⟨h1, h2, h3⟩ := hr
  obtain ⟨h4, h5⟩ := h.r r h1
  refine ⟨Nat.lt_of_lt_of_le h1 h.le, Nat.le_trans h2 h4, fun e => ?_⟩
  have e1 : k'.G r = k.G r := Nat.le_antisymm (e ▸ h2) h4
  rw [h5 e1]
  exact h3 (e.trans e1)
mutual
theorem Rep_mono {k k' : K} {n n' : Nat} {w w' : World} (h : Ext k n w k' n' w') : ∀ (p : PV) (v : Value), Rep k n w p v → Rep k' n' w' p v
  | .any, _, _ => by unfold Rep; trivial
  | .imm i, v, hp => by unfold Rep at hp ⊢; exact RepI_mono h.q i v hp
  | .agg cs, v, hp => by
    unfold Rep at hp ⊢
    obtain ⟨vs, e, hc⟩ := hp
    exact ⟨vs, e, RepL_mono h cs vs hc⟩
  | .tup cs, v, hp => by
    unfold Rep at hp ⊢
    obtain ⟨vs, e, hc⟩ := hp
    exact ⟨vs, e, RepT_mono h cs vs hc⟩
  | .ptr r g o, v, hp => by unfold Rep at hp ⊢; exact ⟨hp.1, hp.2.mono h⟩
  | .row r g, v, hp => by unfold Rep at hp ⊢; exact ⟨hp.1, hp.2.mono h⟩
  | .eptr r g sz i o, v, hp => by unfold Rep at hp ⊢; exact ⟨hp.1, hp.2.mono h⟩
  | .iptr cs, v, hp => by
    unfold Rep at hp ⊢
    obtain ⟨b, off, vs, e, hq, hc, hj⟩ := hp
    exact ⟨b, off, vs, e, (h.q b hq).1, RepC_mono h.q cs vs hc, fun j u hu => (World.cell?_of_block (w := w) (w' := w') (a := ⟨b, off + j, none⟩) (h.q b hq).2).trans (hj j u hu)⟩
  | .clo f cs, v, hp => by
    unfold Rep at hp ⊢
    obtain ⟨vs, e, hc⟩ := hp
    exact ⟨vs, e, RepT_mono h cs vs hc⟩
theorem RepL_mono {k k' : K} {n n' : Nat} {w w' : World} (h : Ext k n w k' n' w') : ∀ (cs : List PV) (vs : List Value), RepL k n w cs vs → RepL k' n' w' cs vs
  | [], _, hc => by simpa [RepL] using hc
  | c :: cs, vs, hc => by
    unfold RepL at hc ⊢
    obtain ⟨v, r, e, h1, h2, h3⟩ := hc
    exact ⟨v, r, e, h1, Rep_mono h c v h2, RepL_mono h cs r h3⟩
theorem RepT_mono {k k' : K} {n n' : Nat} {w w' : World} (h : Ext k n w k' n' w') : ∀ (cs : List PV) (vs : List Value), RepT k n w cs vs → RepT k' n' w' cs vs
  | [], _, hc => by simpa [RepT] using hc
  | c :: cs, vs, hc => by
    unfold RepT at hc ⊢
    obtain ⟨v, r, e, h2, h3⟩ := hc
    exact ⟨v, r, e, Rep_mono h c v h2, RepT_mono h cs r h3⟩
end
theorem Rep_imm {k : K} {n : Nat} {w : World} {i : IV} {v : Value} : Rep k n w (.imm i) v ↔ RepI k.Q w i v := by unfold Rep; exact Iff.rfl
theorem Rep_agg {k : K} {n : Nat} {w : World} {cs : List PV} {v : Value} : Rep k n w (.agg cs) v ↔ ∃ vs : List Value, v = .agg vs.toArray ∧ RepL k n w cs vs := by
  constructor <;> (intro h; unfold Rep at *; exact h)
theorem RepI_agg {Q : Nat → Prop} {w : World} {cs : List IV} {v : Value} : RepI Q w (.agg cs) v ↔ ∃ vs : List Value, v = .agg vs.toArray ∧ RepC Q w cs vs := by
  constructor <;> (intro h; unfold RepI at *; exact h)
theorem Rep_any (k : K) (n : Nat) (w : World) (v : Value) : Rep k n w .any v := by unfold Rep; trivial

/-- The kinds of a struct's cells. -/
inductive CK
  | int (k : IntKind)
  | str
  | bool
/-! ### The call's own blocks -/
/-- What a program's packages hold: variables of plain cells; what else is known of the memory that was there. -/
structure Env where
  gl : Nat → Option (List IV)
  R : World → Prop
  st : ∀ w w', R w → Below w.heap.size w w' → R w'
/-- Where a call stands: the number of its first own block, the world at its beginning, the package's variables. -/
structure Ctx where
  N : Nat
  w0 : World
  X : Env
  Q0 : Nat → Prop
  eqT : TypeId → Option (List CK)
  F : Nat → Prop
  w1 : World
  k0 : K
  n0 : Nat
/-- The values of the elements of a row, as cells. -/
def RepE (k : K) (n : Nat) (w : World) (sz : Nat) : List PV → List Value → Prop
  | [], xs => xs = []
  | e :: es, xs => ∃ v r, xs = v.cells.toList ++ r ∧ v.cells.size = sz ∧ (∀ u ∈ v.cells.toList, one u) ∧ Rep k n w e v ∧ RepE k n w sz es r
def BlkRep (Γ : Ctx) (k : K) (n : Nat) (w : World) (r : Nat) : Blk → Prop
  | .dead g => k.G r = g
  | .box g cs => k.G r = g ∧ ∃ b c ty, k.ρ r = .pointer (some ⟨b, 0, none⟩) ∧ Γ.N ≤ b ∧ w.heap[b]? = some (.cells c ty (0, 0)) ∧ RepL k n w cs c.toList
  | .row e sz g es => k.G r = g ∧ ∃ xs, w.ownsRow Γ.N e sz (k.ρ r) es.length xs ∧ RepE k n w sz es xs
/-- The block that is the call's own. -/
def own (k : K) (r : Nat) : Blk → Option Nat
  | .dead _ => none
  | _ => base (k.ρ r)
/-- It was known, and nothing of it was written. -/
def held (R : World → Prop) (N : Nat) (w : World) : Prop := ∃ w1, R w1 ∧ w1.heap.size ≤ N ∧ Below w1.heap.size w1 w
theorem held.below {R : World → Prop} {N : Nat} {w w' : World} (h : held R N w) (hb : Below N w w') : held R N w' := by
  obtain ⟨w1, h1, h2, h3⟩ := h
  exact ⟨w1, h1, h2, h3.trans (hb.mono h2)⟩
/-- What is known of the blocks that were the caller's, and of those that are not to be touched. -/
structure Keeps (Γ : Ctx) (k : K) (n : Nat) (w : World) : Prop where
  fr : ∀ b, Γ.F b → b < w.heap.size ∧ w.heap[b]? = Γ.w1.heap[b]? ∧ ¬ k.Q b
  ext : Ext Γ.k0 Γ.n0 Γ.w1 k n w
structure Inv (Γ : Ctx) (k : K) (B : List Blk) (w : World) : Prop where
  below : Below Γ.N Γ.w0 w
  lt : ∀ b, k.Q b → b < w.heap.size
  le : Γ.N ≤ w.heap.size
  qs : ∀ b, k.Q b → Γ.Q0 b ∨ Γ.N ≤ b
  rr : held Γ.X.R Γ.N w
  gl : ∀ g cs, Γ.X.gl g = some cs → Rep k B.length w (.iptr cs) (.pointer (some ⟨g, 0, none⟩))
  blk : ∀ r x, B[r]? = some x → BlkRep Γ k B.length w r x
  sep : ∀ r x b, B[r]? = some x → own k r x = some b → ¬ k.Q b ∧ Γ.N ≤ b ∧ b < w.heap.size
  inj : ∀ r r' x x' b, B[r]? = some x → B[r']? = some x' → own k r x = some b → own k r' x' = some b → r = r'
  kp : Keeps Γ k B.length w
  nf : ∀ r x b, B[r]? = some x → own k r x = some b → ¬ Γ.F b
/-- A state of a running call: its slots, its blocks. -/
structure St where
  E : List PV
  B : List Blk
def γ (Γ : Ctx) (s : St) (a : Act) (w : World) : Prop := a.defers = [] ∧ ∃ k, Inv Γ k s.B w ∧ RepT k s.B.length w s.E a.tmps.toList
end Go.Pv

namespace Go.Pv

/-! ### Types -/
inductive TK
  | int (k : IntKind) | str | bool | ptr | struct (fs : List (Nat × Nat × Bool)) | slice (e : TypeId) (sz bytes : Nat) | other
  deriving Inhabited
structure TD where
  agg : Bool
  size : Nat
  zero : List IV
  kind : TK
  deriving Inhabited
def constOf : Value → Option IV
  | .bool b => some (.bool b)
  | .int k z => some (.int k z)
  | .string s => some (.str s)
  | .slice none 0 0 => some .nil
  | .func (.func f) a b => if a.size = 0 ∧ b.size = 0 then some (.fn f) else none
  | .pointer none => some .np
  | _ => none
def aggD : TypeDesc → Bool
  | .struct _ | .array _ _ => true
  | _ => false
def aggV : Value → Bool
  | .agg _ => true
  | _ => false
def constsOf : List Value → Option (List IV)
  | [] => some []
  | v :: r => match constOf v, constsOf r with
    | some i, some is => some (i :: is)
    | _, _ => none
def fieldsOf (P : Program) : List Field → Option (List (Nat × Nat × Bool))
  | [] => some []
  | f :: r => match P.info? f.type, P.underlying f.type, fieldsOf P r with
    | some i, some u, some fs => some ((f.offset, i.size, aggD u) :: fs)
    | _, _, _ => none
def kindOf (P : Program) : TypeDesc → Option TK
  | .int k => some (.int k)
  | .string => some .str
  | .bool => some .bool
  | .struct fs => (fieldsOf P fs.toList).map .struct
  | .slice e => (P.info? e).map fun i => .slice e i.size i.bytes
  | .pointer _ => some .ptr
  | _ => some .other
def tdOf (P : Program) (t : TypeId) : Option TD :=
  match P.info? t, P.underlying t with
  | some i, some u => match i.zero with
    | some z => match constsOf z.cells.toList, kindOf P u with
      | some zs, some k => if aggV z = aggD u ∧ zs.length = i.size then some ⟨aggD u, i.size, zs, k⟩ else none
      | _, _ => none
    | none => none
  | _, _ => none

/-! ### Values -/
def cellsI : IV → List IV
  | .agg cs => cs
  | i => [i]
def cellsP : PV → Option (List PV)
  | .any => none
  | .tup _ => none
  | .agg cs => some cs
  | .imm i => some ((cellsI i).map .imm)
  | p => some [p]
def imms : List PV → Option (List IV)
  | [] => some []
  | .imm i :: r => match imms r with
    | some is => some (i :: is)
    | none => none
  | _ :: _ => none
def norm : PV → PV
  | .agg cs => match imms cs with
    | some is => .imm (.agg is)
    | none => .agg cs
  | p => p
def elems : PV → Option (List IV)
  | .imm .nil => some []
  | .imm (.sl _ es) => some es
  | _ => none
def constOf2 : Value → Option IV
  | .agg vs => match constsOf vs.toList with
    | some cs => some (.agg cs)
    | none => none
  | v => constOf v
def pconst (v : Value) : PV := match constOf2 v with
  | some i => .imm i
  | none => .any
/-- The call at hand: which blocks it may see, what it hands back, what it leaves in blocks. -/
structure Orc where
  reads : List Nat
  res : PV
  ws : List (Nat × Blk)
structure Ob where
  f : FuncId
  args : List PV
  rs : List (Nat × Blk)
  res : PV
  ws : List (Nat × Blk)
structure Out where
  v : PV
  ws : List (Nat × Blk)
  ob : Option Ob
def val (v : PV) : Option Out := some ⟨v, [], none⟩
/-- The most that a row may hold. -/
def most : Nat := 1000000000
def binInt (op : BinOp) (k : IntKind) (a b : Int) : Option IV :=
  match op with
  | .add => some (.int k (k.wrap (a + b)))
  | .sub => some (.int k (k.wrap (a - b)))
  | .mul => some (.int k (k.wrap (a * b)))
  | .eql => some (.bool (a == b))
  | .neq => some (.bool (a != b))
  | .lss => some (.bool (decide (a < b)))
  | .leq => some (.bool (decide (a ≤ b)))
  | .gtr => some (.bool (decide (a > b)))
  | .geq => some (.bool (decide (a ≥ b)))
  | .quo => if b = 0 then none else some (.int k (k.wrap (a.tdiv b)))
  | .rem => if b = 0 then none else some (.int k (a.tmod b))
  | .and => some (.int k (k.wrap (BitVec.ofInt k.bits a &&& BitVec.ofInt k.bits b).toNat))
  | .or => some (.int k (k.wrap (BitVec.ofInt k.bits a ||| BitVec.ofInt k.bits b).toNat))
  | .xor => some (.int k (k.wrap (BitVec.ofInt k.bits a ^^^ BitVec.ofInt k.bits b).toNat))
  | _ => none
def binStr (op : BinOp) (a b : ByteArray) : Option IV :=
  match op with
  | .eql => some (.bool (decide (a = b)))
  | .neq => some (.bool (!decide (a = b)))
  | .add => if a.size + b.size ≤ most then some (.str (a ++ b)) else none
  | _ => none
def shapeB : List IV → List CK → Bool
  | [], [] => true
  | .int k _ :: is, .int k' :: ks => decide (k = k') && shapeB is ks
  | .str _ :: is, .str :: ks => shapeB is ks
  | .bool _ :: is, .bool :: ks => shapeB is ks
  | _, _ => false
def eqC : List IV → List IV → Bool
  | .int _ a :: is, .int _ b :: js => decide (a = b) && eqC is js
  | .str a :: is, .str b :: js => decide (a = b) && eqC is js
  | .bool a :: is, .bool b :: js => (a == b) && eqC is js
  | _, _ => true
def binShift (op : BinOp) (k : IntKind) (a b : Int) : Option IV :=
  match op with
  | .shl => if b < 0 then none else some (.int k (k.wrap (a * 2 ^ (min b.toNat k.bits))))
  | .shr => if b < 0 then none else some (.int k (a.fdiv (2 ^ (min b.toNat k.bits))))
  | _ => none
def isShift : BinOp → Bool
  | .shl | .shr => true
  | _ => false
def byteP : PV → Option UInt8
  | .imm (.int .u8 z) => if 0 ≤ z ∧ z < 256 then some (UInt8.ofNat z.toNat) else none
  | _ => none
def bytesP : List PV → Option (List UInt8)
  | [] => some []
  | p :: r => match byteP p, bytesP r with
    | some b, some bs => some (b :: bs)
    | _, _ => none
def binP (op : BinOp) : PV → PV → Option IV
  | .imm (.int k a), .imm (.int k' b) => if isShift op then binShift op k a b else if k = k' then binInt op k a b else none
  | .imm (.str a), .imm (.str b) => binStr op a b
  | _, _ => none
def partP (cs : List PV) (off size : Nat) (agg : Bool) : Option PV :=
  if agg then (if off + size ≤ cs.length then some (norm (.agg ((cs.drop off).take size))) else none) else cs[off]?
def partI (cs : List IV) (off size : Nat) (agg : Bool) : Option IV :=
  if agg then (if off + size ≤ cs.length then some (.agg ((cs.drop off).take size)) else none) else cs[off]?
def fillP (fs : List (Nat × Nat × Bool)) (cs : List PV) : List (Nat × PV) → Option (List PV)
  | [] => some cs
  | (i, p) :: r => match fs[i]?, cellsP p with
    | some (fo, fz, _), some ps => if ps.length = fz ∧ fo + fz ≤ cs.length then fillP fs (cs.take fo ++ ps ++ cs.drop (fo + fz)) r else none
    | _, _ => none
/-- Every place, in its order. -/
def slotsP (i : Nat) : List (Nat × PV) → Option (List PV)
  | [] => some []
  | (j, p) :: r => if i = j then (match slotsP (i + 1) r with
    | some ps => some (p :: ps)
    | none => none) else none
def sizesB (sz : Nat) : List PV → Bool
  | [] => true
  | p :: ps => (match cellsP p with
    | some cs => decide (cs.length = sz)
    | none => false) && sizesB sz ps
def bound (ev : Operand → PV) (x : Option Operand) (d : Nat) : Option Int :=
  match x with
  | none => some d
  | some y => match ev y with
    | .imm (.int _ i) => some i
    | _ => none
/-- What is appended. -/
def srcP (get : Nat → Option Blk) (sz : Nat) : PV → Option (List PV)
  | .imm .nil => some []
  | .imm (.sl sz' es) => if sz = sz' then some (es.map .imm) else none
  | .row r g => match get r with
    | some (.row _ sz' g' es) => if g = g' ∧ sz = sz' then some es else none
    | _ => none
  | _ => none
/-- An element of the same shape, of other cells. -/
def joinP (p : PV) (cs : List PV) : PV :=
  match p with
  | .agg _ => norm (.agg cs)
  | .imm (.agg _) => norm (.agg cs)
  | _ => match cs with
    | [c] => c
    | _ => .any
def notRef (r : Nat) : PV → Bool
  | .row r' _ => decide (r ≠ r')
  | _ => true
/-- What one operation does: 'ev' its operands, 'get' the blocks that it reads, 'id' the number of a block that it may make. -/
def absOp (P : Program) (T : TypeId → Option (List CK)) (o : Oper) (id : Nat) (ev : Operand → PV) (get : Nat → Option Blk) (cr : List Orc) : Option Out :=
  match o.op with
  | .move x | .assign x => val (ev x)
  | .pick c a b => match ev c with
    | .imm (.bool t) => val (if t then ev a else ev b)
    | _ => none
  | .alloc t => match tdOf P t, get id with
    | some d, some (.dead g) => some ⟨.ptr id (g + 1) 0, [(id, .box (g + 1) (d.zero.map .imm))], none⟩
    | _, _ => none
  | .box _ x => match cellsP (ev x), get id with
    | some cs, some (.dead g) => some ⟨.ptr id (g + 1) 0, [(id, .box (g + 1) cs)], none⟩
    | _, _ => none
  | .load t x => match tdOf P t, ev x with
    | some d, .ptr r g off => match get r with
      | some (.box g' cs) => if g = g' then (partP cs off d.size d.agg).bind val else none
      | _ => none
    | some d, .eptr r g sz i off => match get r with
      | some (.row _ sz' g' es) => if g = g' ∧ sz = sz' then (match es[i]? with
        | some p => (match cellsP p with
          | some cs => (partP cs off d.size d.agg).bind val
          | none => none)
        | none => none) else none
      | _ => none
    | some d, .iptr cs => (partI cs 0 d.size d.agg).bind fun i => val (.imm i)
    | _, _ => none
  | .store t x y => match tdOf P t, ev x, cellsP (ev y) with
    | some d, .ptr r g off, some ys => match get r with
      | some (.box g' cs) => if g = g' ∧ ys.length = d.size ∧ off + d.size ≤ cs.length then some ⟨.any, [(r, .box g (cs.take off ++ ys ++ cs.drop (off + d.size)))], none⟩ else none
      | _ => none
    | some d, .eptr r g sz i off, some ys => match get r with
      | some (.row e sz' g' es) => if g = g' ∧ sz = sz' ∧ ys.length = d.size then (match es[i]? with
        | some p => (match cellsP p with
          | some cs => if off + d.size ≤ cs.length then some ⟨.any, [(r, .row e sz g (es.set i (joinP p (cs.take off ++ ys ++ cs.drop (off + d.size)))))], none⟩ else none
          | none => none)
        | none => none) else none
      | _ => none
    | _, _, _ => none
  | .nilCheck x => match ev x with
    | .ptr r g off => match get r with
      | some (.box g' _) => if g = g' then val (.ptr r g off) else none
      | _ => none
    | .iptr cs => val (.iptr cs)
    | .clo f cs => val (.clo f cs)
    | .imm (.fn f) => val (.imm (.fn f))
    | _ => none
  | .binOp op t x y _ => match ev x, ev y, T t with
    | .imm (.agg is), .imm (.agg js), some ks => if shapeB is ks ∧ shapeB js ks then (match op with
      | .eql => val (.imm (.bool (eqC is js)))
      | .neq => val (.imm (.bool (!eqC is js)))
      | _ => none) else none
    | .imm (.bool a), .imm (.bool b), _ => (match tdOf P t with
      | some ⟨_, _, _, .bool⟩ => (match op with
        | .eql => val (.imm (.bool (a == b)))
        | .neq => val (.imm (.bool (!(a == b))))
        | _ => none)
      | _ => none)
    | .ptr r g _, .imm .np, _ => (match tdOf P t, get r with
      | some ⟨_, _, _, .ptr⟩, some (.box g' _) => if g = g' then (match op with
        | .eql => val (.imm (.bool false))
        | .neq => val (.imm (.bool true))
        | _ => none) else none
      | _, _ => none)
    | .imm .np, .imm .np, _ => (match tdOf P t with
      | some ⟨_, _, _, .ptr⟩ => (match op with
        | .eql => val (.imm (.bool true))
        | .neq => val (.imm (.bool false))
        | _ => none)
      | _ => none)
    | p, q, _ => (binP op p q).bind fun i => val (.imm i)
  | .unOp op _ x => match op, ev x with
    | .not, .imm (.bool b) => val (.imm (.bool (!b)))
    | _, _ => none
  | .fieldAddr s x f => match tdOf P s, ev x with
    | some ⟨_, _, _, .struct fs⟩, .ptr r g off => match fs[f]? with
      | some (fo, fz, _) => match get r with
        | some (.box g' _) => if fz ≠ 0 ∧ g = g' then val (.ptr r g (off + fo)) else none
        | _ => none
      | none => none
    | some ⟨_, _, _, .struct fs⟩, .eptr r g sz i off => match fs[f]? with
      | some (fo, fz, _) => match get r with
        | some (.row _ _ g' _) => if fz ≠ 0 ∧ g = g' then val (.eptr r g sz i (off + fo)) else none
        | _ => none
      | none => none
    | some ⟨_, _, _, .struct fs⟩, .iptr cs => match fs[f]? with
      | some (fo, fz, _) => if fz = 0 then none else val (.iptr (cs.drop fo))
      | none => none
    | _, _ => none
  | .field t x f => match tdOf P t, ev x with
    | some ⟨_, _, _, .struct fs⟩, .imm (.agg cs) => match fs[f]? with
      | some (fo, fz, fa) => (partI cs fo fz fa).bind fun i => val (.imm i)
      | none => none
    | _, _ => none
  | .indexAddr t x ix => match tdOf P t, ev x, ev ix with
    | some ⟨_, _, _, .slice _ sz _⟩, .imm (.sl sz' es), .imm (.int _ i) => if sz = sz' ∧ 0 ≤ i then (es[i.toNat]?).bind fun e => val (.iptr (cellsI e)) else none
    | some ⟨_, _, _, .slice _ sz _⟩, .row r g, .imm (.int _ i) => match get r with
      | some (.row _ sz' g' es) => if g = g' ∧ sz = sz' ∧ 0 ≤ i ∧ i.toNat < es.length then val (.eptr r g sz i.toNat 0) else none
      | _ => none
    | _, _, _ => none
  | .index t x ix => match tdOf P t, ev x, ev ix with
    | some ⟨_, _, _, .str⟩, .imm (.str s), .imm (.int _ i) => if 0 ≤ i then (s.data[i.toNat]?).bind fun b => val (.imm (.int .u8 b.toNat)) else none
    | _, _, _ => none
  | .build t parts => match tdOf P t with
    | some ⟨_, _, zs, .struct fs⟩ => (fillP fs (zs.map .imm) (parts.toList.map fun x => (x.1, ev x.2))).bind fun cs => val (norm (.agg cs))
    | _ => none
  | .buildSlice t n parts => match tdOf P t, get id, slotsP 0 (parts.toList.map fun x => (x.1, ev x.2)) with
    | some ⟨_, _, _, .slice e sz _⟩, some (.dead g), some ps => if n = ps.length ∧ (tdOf P e).isSome = true ∧ 0 < sz ∧ n * sz ≤ 16000000 ∧ sizesB sz ps then some ⟨.row id (g + 1), [(id, .row e sz (g + 1) ps)], none⟩ else none
    | _, _, _ => none
  | .slice t x lo hi none => match tdOf P t, ev x, bound ev lo 0 with
    | some ⟨_, _, _, .str⟩, .imm (.str s), some l => match bound ev hi s.size with
      | some h => if 0 ≤ l ∧ l ≤ h ∧ h ≤ s.size then val (.imm (.str (s.extract l.toNat h.toNat))) else none
      | none => none
    | some ⟨_, _, _, .slice _ sz _⟩, .imm (.sl sz' es), some l => match bound ev hi es.length with
      | some h => if sz = sz' ∧ 0 ≤ l ∧ l ≤ h ∧ h ≤ es.length then val (.imm (.sl sz ((es.drop l.toNat).take (h.toNat - l.toNat)))) else none
      | none => none
    | some ⟨_, _, _, .slice _ sz _⟩, .row r g, some l => match get r with
      | some (.row e sz' g' es) => (match bound ev hi es.length with
        | some h => if g = g' ∧ sz = sz' ∧ l = 0 ∧ 0 ≤ h ∧ h ≤ es.length then some ⟨.row r (g + 1), [(r, .row e sz (g + 1) (es.take h.toNat))], none⟩ else none
        | none => none)
      | _ => none
    | _, _, _ => none
  | .call ⟨.builtin .append, args, ts⟩ => match tdOf P (ts.getD 0 0), args.toList.map ev with
    | some ⟨_, _, _, .slice e sz bytes⟩, [s, x] => if (tdOf P e).isSome = true ∧ 0 < sz ∧ bytes ≤ 100000 ∧ ts.size = 2 ∧ ts.getD 1 0 = ts.getD 0 0 then (match srcP get sz x with
      | some xs => match s with
        | .imm .nil => match get id with
          | some (.dead g) => if xs.length ≤ most then some ⟨.row id (g + 1), [(id, .row e sz (g + 1) xs)], none⟩ else none
          | _ => none
        | .row r g => match get r with
          | some (.row e' sz' g' es) => if g = g' ∧ e = e' ∧ sz = sz' ∧ es.length + xs.length ≤ most ∧ notRef r x then some ⟨.row r (g + 1), [(r, .row e sz (g + 1) (es ++ xs))], none⟩ else none
          | _ => none
        | _ => none
      | none => none) else none
    | _, _ => none
  | .extract x i => match ev x with
    | .tup cs => (cs[i]?).bind val
    | _ => none
  | .makeFunc (.func f) first caps => if first.size = 0 then val (if caps.size = 0 then .imm (.fn f) else .clo f (caps.toList.map ev)) else none
  | .convert s t x => match tdOf P s, tdOf P t, ev x with
    | some ⟨_, _, _, .int _⟩, some ⟨_, _, _, .int k⟩, .imm (.int _ z) => val (.imm (.int k (k.wrap z)))
    | some ⟨_, _, _, .str⟩, some ⟨_, _, _, .str⟩, .imm (.str z) => val (.imm (.str z))
    | some ⟨_, _, _, .slice e 1 _⟩, some ⟨_, _, _, .str⟩, .row r g => match tdOf P e, get r with
      | some ⟨_, _, _, .int .u8⟩, some (.row _ 1 g' es) => if g = g' then (bytesP es).bind fun bs => val (.imm (.str ⟨bs.toArray⟩)) else none
      | _, _ => none
    | some ⟨_, _, _, .slice e 1 _⟩, some ⟨_, _, _, .str⟩, .imm (.sl 1 es) => match tdOf P e with
      | some ⟨_, _, _, .int .u8⟩ => (bytesP (es.map .imm)).bind fun bs => val (.imm (.str ⟨bs.toArray⟩))
      | _ => none
    | _, _, _ => none
  | .call ⟨.builtin .len, args, ts⟩ => match tdOf P (ts.getD 0 0), args.toList.map ev with
    | some ⟨_, _, _, .slice _ _ _⟩, [.imm .nil] => if ts.size = 1 then val (.imm (.int .i64 0)) else none
    | some ⟨_, _, _, .slice _ _ _⟩, [.imm (.sl _ es)] => if ts.size = 1 then val (.imm (.int .i64 es.length)) else none
    | some ⟨_, _, _, .str⟩, [.imm (.str s)] => if ts.size = 1 then val (.imm (.int .i64 s.size)) else none
    | some ⟨_, _, _, .slice _ _ _⟩, [.row r g] => match get r with
      | some (.row _ _ g' es) => if ts.size = 1 ∧ g = g' then val (.imm (.int .i64 es.length)) else none
      | _ => none
    | _, _ => none
  | .call ⟨.builtin .max, args, _⟩ => match args.toList.map ev with
    | [.imm (.int k a), .imm (.int _ b)] => val (.imm (.int k (if b > a then b else a)))
    | _ => none
  | .call ⟨.builtin .min, args, _⟩ => match args.toList.map ev with
    | [.imm (.int k a), .imm (.int _ b)] => val (.imm (.int k (if b < a then b else a)))
    | _ => none
  | .call ⟨.value f, args, _⟩ => match ev f, cr with
    | .imm (.fn f), c :: _ => some ⟨c.res, c.ws, some ⟨f, args.toList.map ev, c.reads.filterMap fun r => (get r).map fun b => (r, b), c.res, c.ws⟩⟩
    | .clo f cs, c :: _ => some ⟨c.res, c.ws, some ⟨f, args.toList.map ev ++ cs, c.reads.filterMap fun r => (get r).map fun b => (r, b), c.res, c.ws⟩⟩
    | _, _ => none
  | _ => none
end Go.Pv

namespace Go.Pv
open Go.RowKit (Below)

/-! ### Lists -/
theorem RepT_len {k : K} {n : Nat} {w : World} : ∀ {E : List PV} {vs : List Value}, RepT k n w E vs → E.length = vs.length
  | [], vs, h => by unfold RepT at h; subst h; rfl
  | c :: cs, vs, h => by
    unfold RepT at h
    obtain ⟨v, r, e, _, h2⟩ := h
    rw [e, List.length_cons, List.length_cons, RepT_len h2]
theorem RepL_len {k : K} {n : Nat} {w : World} : ∀ {E : List PV} {vs : List Value}, RepL k n w E vs → E.length = vs.length
  | [], vs, h => by unfold RepL at h; subst h; rfl
  | c :: cs, vs, h => by
    unfold RepL at h
    obtain ⟨v, r, e, _, _, h2⟩ := h
    rw [e, List.length_cons, List.length_cons, RepL_len h2]
theorem RepC_len {Q : Nat → Prop} {w : World} : ∀ {E : List IV} {vs : List Value}, RepC Q w E vs → E.length = vs.length
  | [], vs, h => by unfold RepC at h; subst h; rfl
  | c :: cs, vs, h => by
    unfold RepC at h
    obtain ⟨v, r, e, _, _, h2⟩ := h
    rw [e, List.length_cons, List.length_cons, RepC_len h2]
theorem RepT_get {k : K} {n : Nat} {w : World} : ∀ {E : List PV} {vs : List Value} (_ : RepT k n w E vs) (t : Nat) (d : Value), Rep k n w (E.getD t .any) (vs.getD t d)
  | [], vs, h, t, d => by simpa using Rep_any k n w _
  | c :: cs, vs, h, t, d => by
    unfold RepT at h
    obtain ⟨v, r, e, h1, h2⟩ := h
    subst e
    cases t with
    | zero => simpa using h1
    | succ t => simpa using RepT_get h2 t d
theorem RepT_at {k : K} {n : Nat} {w : World} : ∀ {E : List PV} {vs : List Value} (_ : RepT k n w E vs) (t : Nat) (p : PV), E[t]? = some p → ∃ v, vs[t]? = some v ∧ Rep k n w p v
  | [], vs, h, t, p, e => by simp at e
  | c :: cs, vs, h, t, p, e => by
    unfold RepT at h
    obtain ⟨v, r, ee, h1, h2⟩ := h
    subst ee
    cases t with
    | zero => simp only [List.getElem?_cons_zero, Option.some.injEq] at e; subst e; exact ⟨v, rfl, h1⟩
    | succ t => simpa using RepT_at h2 t p (by simpa using e)
theorem RepL_at {k : K} {n : Nat} {w : World} : ∀ {E : List PV} {vs : List Value} (_ : RepL k n w E vs) (t : Nat) (p : PV), E[t]? = some p → ∃ v, vs[t]? = some v ∧ one v ∧ Rep k n w p v
  | [], vs, h, t, p, e => by simp at e
  | c :: cs, vs, h, t, p, e => by
    unfold RepL at h
    obtain ⟨v, r, ee, h0, h1, h2⟩ := h
    subst ee
    cases t with
    | zero => simp only [List.getElem?_cons_zero, Option.some.injEq] at e; subst e; exact ⟨v, rfl, h0, h1⟩
    | succ t => simpa using RepL_at h2 t p (by simpa using e)
theorem RepC_at {Q : Nat → Prop} {w : World} : ∀ {E : List IV} {vs : List Value} (_ : RepC Q w E vs) (t : Nat) (p : IV), E[t]? = some p → ∃ v, vs[t]? = some v ∧ one v ∧ RepI Q w p v
  | [], vs, h, t, p, e => by simp at e
  | c :: cs, vs, h, t, p, e => by
    unfold RepC at h
    obtain ⟨v, r, ee, h0, h1, h2⟩ := h
    subst ee
    cases t with
    | zero => simp only [List.getElem?_cons_zero, Option.some.injEq] at e; subst e; exact ⟨v, rfl, h0, h1⟩
    | succ t => simpa using RepC_at h2 t p (by simpa using e)
theorem RepL_drop {k : K} {n : Nat} {w : World} : ∀ {E : List PV} {vs : List Value} (_ : RepL k n w E vs) (t : Nat), RepL k n w (E.drop t) (vs.drop t)
  | [], vs, h, t => by unfold RepL at h; subst h; simp [RepL]
  | c :: cs, vs, h, t => by
    cases t with
    | zero => simpa using h
    | succ t =>
      unfold RepL at h
      obtain ⟨v, r, ee, h0, h1, h2⟩ := h
      subst ee
      simpa using RepL_drop h2 t
theorem RepL_take {k : K} {n : Nat} {w : World} : ∀ {E : List PV} {vs : List Value} (_ : RepL k n w E vs) (t : Nat), RepL k n w (E.take t) (vs.take t)
  | [], vs, h, t => by unfold RepL at h; subst h; simp [RepL]
  | c :: cs, vs, h, t => by
    unfold RepL at h
    obtain ⟨v, r, ee, h0, h1, h2⟩ := h
    subst ee
    cases t with
    | zero => simp [RepL]
    | succ t => simp only [List.take_succ_cons]; unfold RepL; exact ⟨v, _, rfl, h0, h1, RepL_take h2 t⟩
theorem RepL_app {k : K} {n : Nat} {w : World} : ∀ {E E' : List PV} {vs vs' : List Value}, RepL k n w E vs → RepL k n w E' vs' → RepL k n w (E ++ E') (vs ++ vs')
  | [], _, vs, _, h, h' => by unfold RepL at h; subst h; simpa using h'
  | c :: cs, _, vs, _, h, h' => by
    unfold RepL at h
    obtain ⟨v, r, ee, h0, h1, h2⟩ := h
    subst ee
    simp only [List.cons_append]
    unfold RepL
    exact ⟨v, _, rfl, h0, h1, RepL_app h2 h'⟩
theorem RepT_app {k : K} {n : Nat} {w : World} : ∀ {E E' : List PV} {vs vs' : List Value}, RepT k n w E vs → RepT k n w E' vs' → RepT k n w (E ++ E') (vs ++ vs')
  | [], _, vs, _, h, h' => by unfold RepT at h; subst h; simpa using h'
  | c :: cs, _, vs, _, h, h' => by
    unfold RepT at h
    obtain ⟨v, r, ee, h1, h2⟩ := h
    subst ee
    simp only [List.cons_append]
    unfold RepT
    exact ⟨v, _, rfl, h1, RepT_app h2 h'⟩
theorem RepC_drop {Q : Nat → Prop} {w : World} : ∀ {E : List IV} {vs : List Value} (_ : RepC Q w E vs) (t : Nat), RepC Q w (E.drop t) (vs.drop t)
  | [], vs, h, t => by unfold RepC at h; subst h; simp [RepC]
  | c :: cs, vs, h, t => by
    cases t with
    | zero => simpa using h
    | succ t =>
      unfold RepC at h
      obtain ⟨v, r, ee, h0, h1, h2⟩ := h
      subst ee
      simpa using RepC_drop h2 t
theorem RepC_take {Q : Nat → Prop} {w : World} : ∀ {E : List IV} {vs : List Value} (_ : RepC Q w E vs) (t : Nat), RepC Q w (E.take t) (vs.take t)
  | [], vs, h, t => by unfold RepC at h; subst h; simp [RepC]
  | c :: cs, vs, h, t => by
    unfold RepC at h
    obtain ⟨v, r, ee, h0, h1, h2⟩ := h
    subst ee
    cases t with
    | zero => simp [RepC]
    | succ t => simp only [List.take_succ_cons]; unfold RepC; exact ⟨v, _, rfl, h0, h1, RepC_take h2 t⟩
/-- Plain cells are cells. -/
theorem RepL_imm {k : K} {n : Nat} {w : World} : ∀ {cs : List IV} {vs : List Value}, RepC k.Q w cs vs → RepL k n w (cs.map .imm) vs
  | [], vs, h => by unfold RepC at h; subst h; simp [RepL]
  | c :: cs, vs, h => by
    unfold RepC at h
    obtain ⟨v, r, ee, h0, h1, h2⟩ := h
    simp only [List.map_cons]
    unfold RepL
    exact ⟨v, r, ee, h0, by unfold Rep; exact h1, RepL_imm h2⟩
theorem RepC_of_imms {k : K} {n : Nat} {w : World} : ∀ {cs : List PV} {is : List IV} {vs : List Value}, imms cs = some is → RepL k n w cs vs → RepC k.Q w is vs
  | [], is, vs, h, hr => by
    simp only [imms, Option.some.injEq] at h
    subst h
    unfold RepL at hr
    simp [RepC, hr]
  | .imm i :: cs, is, vs, h, hr => by
    unfold imms at h
    split at h
    · rename_i js hj
      simp only [Option.some.injEq] at h
      subst h
      unfold RepL at hr
      obtain ⟨v, r, ee, h0, h1, h2⟩ := hr
      unfold RepC
      exact ⟨v, r, ee, h0, by unfold Rep at h1; exact h1, RepC_of_imms hj h2⟩
    · cases h
  | .any :: cs, is, vs, h, _ => by cases h
  | .agg _ :: cs, is, vs, h, _ => by cases h
  | .tup _ :: cs, is, vs, h, _ => by cases h
  | .ptr _ _ _ :: cs, is, vs, h, _ => by cases h
  | .row _ _ :: cs, is, vs, h, _ => by cases h
  | .eptr _ _ _ _ _ :: cs, is, vs, h, _ => by cases h
  | .iptr _ :: cs, is, vs, h, _ => by cases h
  | .clo _ _ :: cs, is, vs, h, _ => by cases h
theorem Rep_norm {k : K} {n : Nat} {w : World} {p : PV} {v : Value} (h : Rep k n w p v) : Rep k n w (norm p) v := by
  cases p with
  | agg cs =>
    cases hi : imms cs with
    | some is =>
      have e : norm (.agg cs) = .imm (.agg is) := by simp [norm, hi]
      rw [e, Rep_imm, RepI_agg]
      obtain ⟨vs, e, hc⟩ := Rep_agg.1 h
      exact ⟨vs, e, RepC_of_imms hi hc⟩
    | none =>
      have e : norm (.agg cs) = .agg cs := by simp [norm, hi]
      rw [e]; exact h
  | _ => exact h
theorem cells_agg (vs : List Value) : (Value.agg vs.toArray).cells = vs.toArray := rfl
theorem Rep_cells {k : K} {n : Nat} {w : World} {p : PV} {v : Value} {cs : List PV} (h : Rep k n w p v) (hc : cellsP p = some cs) : RepL k n w cs v.cells.toList := by
  have single : ∀ v : Value, one v → Rep k n w p v → RepL k n w [p] v.cells.toList := by
    intro v hv hr
    have e : v.cells.toList = [v] := by cases v <;> first | rfl | (simp [one, Value.oneCell'] at hv)
    rw [e]
    unfold RepL
    exact ⟨v, [], rfl, hv, hr, by unfold RepL; rfl⟩
  cases p with
  | any => cases hc
  | tup _ => cases hc
  | agg ps =>
    simp only [cellsP, Option.some.injEq] at hc
    subst hc
    unfold Rep at h
    obtain ⟨vs, e, hl⟩ := h
    subst e
    exact hl
  | imm i =>
    simp only [cellsP, Option.some.injEq] at hc
    subst hc
    cases i with
    | agg is =>
      unfold Rep RepI at h
      obtain ⟨vs, e, hl⟩ := h
      subst e
      exact RepL_imm hl
    | bool b => exact single v (by unfold Rep RepI at h; subst h; rfl) h
    | int kk z => exact single v (by unfold Rep RepI at h; subst h; rfl) h
    | str s => exact single v (by unfold Rep RepI at h; subst h; rfl) h
    | fn f => exact single v (by unfold Rep RepI at h; subst h; rfl) h
    | nil => exact single v (by unfold Rep RepI at h; subst h; rfl) h
    | np => exact single v (by unfold Rep RepI at h; subst h; rfl) h
    | sl sz es => exact single v (by unfold Rep RepI at h; obtain ⟨a, c, e, _⟩ := h; subst e; rfl) h
  | ptr r g o =>
    simp only [cellsP, Option.some.injEq] at hc
    subst hc
    exact single v (by unfold Rep at h; exact h.1) h
  | row r g =>
    simp only [cellsP, Option.some.injEq] at hc
    subst hc
    exact single v (by unfold Rep at h; exact h.1) h
  | eptr r g sz i o =>
    simp only [cellsP, Option.some.injEq] at hc
    subst hc
    exact single v (by unfold Rep at h; exact h.1) h
  | iptr cs =>
    simp only [cellsP, Option.some.injEq] at hc
    subst hc
    exact single v (by unfold Rep at h; obtain ⟨b, off, vs, e, _⟩ := h; subst e; rfl) h
  | clo f cs =>
    simp only [cellsP, Option.some.injEq] at hc
    subst hc
    exact single v (by unfold Rep at h; obtain ⟨vs, e, _⟩ := h; subst e; rfl) h

/-! ### Blocks -/
theorem RepE_mono {k k' : K} {n n' : Nat} {w w' : World} {sz : Nat} (h : Ext k n w k' n' w') : ∀ (es : List PV) (xs : List Value), RepE k n w sz es xs → RepE k' n' w' sz es xs
  | [], _, hr => by unfold RepE at hr ⊢; exact hr
  | e :: es, xs, hr => by
    unfold RepE at hr ⊢
    obtain ⟨v, r, h1, h2, h3, h4, h5⟩ := hr
    exact ⟨v, r, h1, h2, h3, Rep_mono h e v h4, RepE_mono h es r h5⟩
theorem own_row {w w' : World} {N : Nat} {e : TypeId} {sz n : Nat} {v : Value} {xs : List Value} (h : w.ownsRow N e sz v n xs) (hb : ∀ b, base v = some b → w'.heap[b]? = w.heap[b]?) : w'.ownsRow N e sz v n xs := by
  obtain ⟨h1, h2⟩ := h
  refine ⟨h1, ?_⟩
  rcases h2 with h2 | ⟨g, cap, cur, hv, hg, hh, r⟩
  · exact Or.inl h2
  · exact Or.inr ⟨g, cap, cur, hv, hg, by rw [hb g (by rw [hv]; rfl)]; exact hh, r⟩
/-- A block that nobody wrote. -/
theorem blk_keep {Γ : Ctx} {k k' : K} {n : Nat} {w w' : World} {r : Nat} {x : Blk} (h : BlkRep Γ k n w r x) (he : Ext k n w k' n w') (hρ : k'.ρ r = k.ρ r) (hG : k'.G r = k.G r)
    (hb : ∀ b, own k r x = some b → w'.heap[b]? = w.heap[b]?) : BlkRep Γ k' n w' r x := by
  cases x with
  | dead g => exact hG.trans h
  | box g cs =>
    obtain ⟨h1, b, c, ty, h2, h3, h4, h5⟩ := h
    exact ⟨hG.trans h1, b, c, ty, hρ.trans h2, h3, (hb b (by show base (k.ρ r) = _; rw [h2]; rfl)).trans h4, RepL_mono he cs _ h5⟩
  | row e sz g es =>
    obtain ⟨h1, xs, h2, h3⟩ := h
    exact ⟨hG.trans h1, xs, by rw [hρ]; exact own_row h2 (fun b hb' => hb b hb'), RepE_mono he es xs h3⟩
theorem own_eq {k k' : K} {r : Nat} {x : Blk} (hρ : k'.ρ r = k.ρ r) : own k' r x = own k r x := by
  cases x <;> simp [own, hρ]
/-- A new block. -/
def K.put (k : K) (id : Nat) (v : Value) (g : Nat) : K := ⟨fun r => if r = id then v else k.ρ r, fun r => if r = id then g else k.G r, k.Q⟩
theorem K.put_ρ (k : K) (id : Nat) (v : Value) (g : Nat) : (k.put id v g).ρ id = v := by simp [K.put]
theorem K.put_G (k : K) (id : Nat) (v : Value) (g : Nat) : (k.put id v g).G id = g := by simp [K.put]
theorem K.put_ρ' (k : K) {id r : Nat} (v : Value) (g : Nat) (h : r ≠ id) : (k.put id v g).ρ r = k.ρ r := by simp [K.put, h]
theorem K.put_G' (k : K) {id r : Nat} (v : Value) (g : Nat) (h : r ≠ id) : (k.put id v g).G r = k.G r := by simp [K.put, h]
/-- One block of the call's own is made or written; all that is plain stays. -/
theorem inv_put {Γ : Ctx} {k : K} {B : List Blk} {w w' : World} (h : Inv Γ k B w) {id : Nat} {x y : Blk} (hx : B[id]? = some x) {v : Value} {g : Nat}
    (hg : k.G id < g ∨ (k.G id = g ∧ v = k.ρ id)) (hbel : Below Γ.N w w') (hblk : ∀ b, b < w.heap.size → some b ≠ own k id x → w'.heap[b]? = w.heap[b]?)
    (hnew : ∀ b, base v = some b → (w.heap.size ≤ b ∨ own k id x = some b) ∧ b < w'.heap.size)
    (hy : Ext k B.length w (k.put id v g) B.length w' → BlkRep Γ (k.put id v g) B.length w' id y) :
    Ext k B.length w (k.put id v g) B.length w' ∧ Inv Γ (k.put id v g) (B.set id y) w' := by
  have hid : id < B.length := (List.getElem?_eq_some_iff.1 hx).1
  have hQ : ∀ b, k.Q b → some b ≠ own k id x := fun b hb e => (h.sep id x b hx e.symm).1 hb
  have he : Ext k B.length w (k.put id v g) B.length w' := by
    refine ⟨Nat.le_refl _, fun b hb => ⟨hb, hblk b (h.lt b hb) (hQ b hb)⟩, fun r hr => ?_⟩
    by_cases e : r = id
    · subst e
      rw [K.put_G, K.put_ρ]
      rcases hg with hg | ⟨hg, hv⟩
      · exact ⟨Nat.le_of_lt hg, fun e => absurd e (Nat.ne_of_gt hg)⟩
      · exact ⟨Nat.le_of_eq hg, fun _ => hv⟩
    · rw [K.put_G' k v g e, K.put_ρ' k v g e]
      exact ⟨Nat.le_refl _, fun _ => rfl⟩
  have hot : ∀ r z b, r ≠ id → B[r]? = some z → own k r z = some b → w'.heap[b]? = w.heap[b]? := fun r z b hr hz hb => by
    refine hblk b (h.sep r z b hz hb).2.2 (fun e => ?_)
    exact hr (h.inj r id z x b hz hx hb e.symm)
  have hset : ∀ r z, (B.set id y)[r]? = some z → (r = id ∧ z = y) ∨ (r ≠ id ∧ B[r]? = some z) := fun r z hz => by
    by_cases e : r = id
    · subst e
      rw [List.getElem?_set_self hid] at hz
      exact Or.inl ⟨rfl, (Option.some.inj hz).symm⟩
    · rw [List.getElem?_set_ne (Ne.symm e)] at hz
      exact Or.inr ⟨e, hz⟩
  have howny : ∀ b, own (k.put id v g) id y = some b → base v = some b := fun b hb => by
    cases y with
    | dead _ => cases hb
    | box _ _ => simpa [own, K.put_ρ] using hb
    | row _ _ _ _ => simpa [own, K.put_ρ] using hb
  refine ⟨he, ⟨h.below.trans hbel, fun b hb => Nat.lt_of_lt_of_le (h.lt b hb) hbel.size, Nat.le_trans h.le hbel.size, h.qs, h.rr.below hbel, fun gg cs hc => ?_, fun r z hz => ?_, fun r z b hz hb => ?_, fun r r' z z' b hz hz' hb hb' => ?_, ⟨fun b hb => ?_, by rw [List.length_set]; exact h.kp.ext.trans he⟩, fun r z b hz hb => ?_⟩⟩
  · rw [List.length_set]; exact Rep_mono he _ _ (h.gl gg cs hc)
  · rw [List.length_set]
    rcases hset r z hz with ⟨e1, e2⟩ | ⟨e1, e2⟩
    · rw [e1, e2]; exact hy he
    · exact blk_keep (h.blk r z e2) he (K.put_ρ' k v g e1) (K.put_G' k v g e1) (fun b hb => hot r z b e1 e2 hb)
  · rcases hset r z hz with ⟨e1, e2⟩ | ⟨e1, e2⟩
    · subst e1; subst e2
      obtain ⟨h1, h2⟩ := hnew b (howny b hb)
      rcases h1 with h1 | h1
      · exact ⟨fun hq => by have := h.lt b hq; omega, Nat.le_trans h.le h1, h2⟩
      · obtain ⟨g1, g2, _⟩ := h.sep r x b hx h1
        exact ⟨g1, g2, h2⟩
    · rw [own_eq (K.put_ρ' k v g e1)] at hb
      obtain ⟨g1, g2, g3⟩ := h.sep r z b e2 hb
      exact ⟨g1, g2, Nat.lt_of_lt_of_le g3 hbel.size⟩
  · have key : ∀ r z, r ≠ id → B[r]? = some z → own k r z = some b → base v = some b → False := fun r z hr hz hbz hbv => by
      obtain ⟨h1, _⟩ := hnew b hbv
      rcases h1 with h1 | h1
      · have := (h.sep r z b hz hbz).2.2; omega
      · exact hr (h.inj r id z x b hz hx hbz h1)
    rcases hset r z hz with ⟨e1, e2⟩ | ⟨e1, e2⟩ <;> rcases hset r' z' hz' with ⟨f1, f2⟩ | ⟨f1, f2⟩
    · rw [e1, f1]
    · subst e1; subst e2
      rw [own_eq (K.put_ρ' k v g f1)] at hb'
      exact (key r' z' f1 f2 hb' (howny b hb)).elim
    · subst f1; subst f2
      rw [own_eq (K.put_ρ' k v g e1)] at hb
      exact (key r z e1 e2 hb (howny b hb')).elim
    · rw [own_eq (K.put_ρ' k v g e1)] at hb
      rw [own_eq (K.put_ρ' k v g f1)] at hb'
      exact h.inj r r' z z' b e2 f2 hb hb'
  · obtain ⟨g1, g2, g3⟩ := h.kp.fr b hb
    exact ⟨Nat.lt_of_lt_of_le g1 hbel.size, (hblk b g1 (fun e => h.nf id x b hx e.symm hb)).trans g2, g3⟩
  · rcases hset r z hz with ⟨e1, e2⟩ | ⟨e1, e2⟩
    · subst e1; subst e2
      obtain ⟨h1, h2⟩ := hnew b (howny b hb)
      rcases h1 with h1 | h1
      · exact fun hf => by have := (h.kp.fr b hf).1; omega
      · exact h.nf r x b hx h1
    · rw [own_eq (K.put_ρ' k v g e1)] at hb
      exact h.nf r z b e2 hb
end Go.Pv

namespace Go.Pv
open Go.RowKit (Below)

theorem td_facts {P : Program} {t : TypeId} {d : TD} (h : tdOf P t = some d) : ∃ i z u, P.info? t = some i ∧ P.underlying t = some u ∧ i.zero = some z ∧ constsOf z.cells.toList = some d.zero ∧ kindOf P u = some d.kind ∧
    aggV z = aggD u ∧ d.agg = aggD u ∧ d.size = i.size ∧ d.zero.length = i.size := by
  unfold tdOf at h
  split at h
  · rename_i i u hi hu
    split at h
    · rename_i z hz
      split at h
      · rename_i zs kk h1 h2
        split at h
        · rename_i hc
          simp only [Option.some.injEq] at h
          subst h
          exact ⟨i, z, u, hi, hu, hz, h1, h2, hc.1, rfl, rfl, hc.2⟩
        · cases h
      · cases h
    · cases h
  · cases h
theorem const_rep {Q : Nat → Prop} {w : World} {v : Value} {i : IV} (h : constOf v = some i) : RepI Q w i v ∧ one v := by
  unfold constOf at h
  split at h
  case h_5 f a b =>
    split at h
    · rename_i hc
      simp only [Option.some.injEq] at h
      subst h
      obtain ⟨h1, h2⟩ := hc
      rw [Array.eq_empty_of_size_eq_zero h1, Array.eq_empty_of_size_eq_zero h2]
      exact ⟨by unfold RepI; rfl, rfl⟩
    · cases h
  all_goals first | (cases h; done) | (simp only [Option.some.injEq] at h; subst h; exact ⟨by unfold RepI; rfl, rfl⟩)
theorem consts_rep {Q : Nat → Prop} {w : World} : ∀ {vs : List Value} {is : List IV}, constsOf vs = some is → RepC Q w is vs
  | [], is, h => by
    simp only [constsOf, Option.some.injEq] at h
    subst h
    unfold RepC; rfl
  | v :: r, is, h => by
    unfold constsOf at h
    split at h
    · rename_i i js h1 h2
      simp only [Option.some.injEq] at h
      subst h
      unfold RepC
      exact ⟨v, r, rfl, (const_rep (Q := Q) (w := w) h1).2, (const_rep h1).1, consts_rep h2⟩
    · cases h
theorem const2_rep {Q : Nat → Prop} {w : World} {v : Value} {i : IV} (h : constOf2 v = some i) : RepI Q w i v := by
  unfold constOf2 at h
  split at h
  · split at h
    · rename_i vs _ cs hc
      simp only [Option.some.injEq] at h
      subst h
      rw [RepI_agg]
      exact ⟨vs.toList, by simp, consts_rep hc⟩
    · cases h
  · exact (const_rep h).1
def pev (Γ : Ctx) (E : List PV) : Operand → PV
  | .tmp t => E.getD t .any
  | .const v => pconst v
  | .global g => match Γ.X.gl g with
    | some cs => .iptr cs
    | none => .any
  | .func f => .imm (.fn f)
section
variable {P : Program} {Γ : Ctx} {k : K} {w : World} {a : Act} {s : St} (hI : Inv Γ k s.B w) (hT : RepT k s.B.length w s.E a.tmps.toList)
include hI hT
theorem eval_rep (x : Operand) : Rep k s.B.length w (pev Γ s.E x) (a.eval x) := by
  cases x with
  | tmp t =>
    have h := RepT_get hT t undef
    simpa [pev, Act.eval, Array.getD_eq_getD_getElem?, List.getD] using h
  | const v =>
    simp only [pev, pconst, Act.eval]
    cases hc : constOf2 v with
    | none => exact Rep_any _ _ _ _
    | some i => exact Rep_imm.2 (const2_rep hc)
  | global g =>
    simp only [pev, Act.eval]
    cases hg : Γ.X.gl g with
    | none => exact Rep_any _ _ _ _
    | some cs => exact hI.gl g cs hg
  | func f => simp only [pev, Act.eval]; exact Rep_imm.2 (by unfold RepI; rfl)
omit hI hT in
def setB (B : List Blk) : List (Nat × Blk) → List Blk
  | [] => B
  | (r, b) :: ws => setB (B.set r b) ws
omit hI hT in
theorem setB_len : ∀ (ws : List (Nat × Blk)) (B : List Blk), (setB B ws).length = B.length
  | [], _ => rfl
  | (r, b) :: ws, B => by unfold setB; rw [setB_len ws, List.length_set]
/-- What an operation leads to. -/
def Does (P : Program) (Γ : Ctx) (k : K) (w : World) (a : Act) (B : List Blk) (o : Oper) (out : Out) : Prop :=
  ∀ (next : Act → World → Prop) (Q : Exit → Act → World → Prop), (∀ v w' k', Ext k B.length w k' B.length w' → Inv Γ k' (setB B out.ws) w' → Rep k' B.length w' out.v v → next (a.put o.dst v) w') → o.wp P a w next Q
omit hT in
theorem does_value {o : Oper} {v : Value} {p : PV} (he : (execOp a.eval o).run P w = .ok (.value v) w) (hr : Rep k s.B.length w p v) : Does P Γ k w a s.B o ⟨p, [], none⟩ := fun next Q h => by
  unfold Oper.wp
  rw [he]
  exact h v w k (Ext.refl _ _ _) hI hr
omit hT hI in
theorem does_step {o : Oper} {v : Value} {p : PV} {w' : World} {k' : K} {ws : List (Nat × Blk)} {ob : Option Ob} (he : (execOp a.eval o).run P w = .ok (.value v) w') (h1 : Ext k s.B.length w k' s.B.length w') (h2 : Inv Γ k' (setB s.B ws) w') (hr : Rep k' s.B.length w' p v) : Does P Γ k w a s.B o ⟨p, ws, ob⟩ := fun next Q h => by
  unfold Oper.wp
  rw [he]
  exact h v w' k' h1 h2 hr
omit hT hI in
theorem does_skip {o : Oper} {w' : World} {k' : K} {ws : List (Nat × Blk)} {ob : Option Ob} (he : (execOp a.eval o).run P w = .ok .skip w') (h1 : Ext k s.B.length w k' s.B.length w') (h2 : Inv Γ k' (setB s.B ws) w') : Does P Γ k w a s.B o ⟨.any, ws, ob⟩ := fun next Q h => by
  unfold Oper.wp
  rw [he]
  exact h undef w' k' h1 h2 (Rep_any _ _ _ _)
omit hI hT in
theorem imm_int {kk : IntKind} {z : Int} {v : Value} (h : Rep k s.B.length w (.imm (.int kk z)) v) : v = .int kk z := by rw [Rep_imm] at h; unfold RepI at h; exact h
omit hI hT in
theorem imm_bool {b : Bool} {v : Value} (h : Rep k s.B.length w (.imm (.bool b)) v) : v = .bool b := by rw [Rep_imm] at h; unfold RepI at h; exact h
omit hI hT in
theorem imm_str {b : ByteArray} {v : Value} (h : Rep k s.B.length w (.imm (.str b)) v) : v = .string b := by rw [Rep_imm] at h; unfold RepI at h; exact h
omit hI hT in
theorem imm_fn {f : FuncId} {v : Value} (h : Rep k s.B.length w (.imm (.fn f)) v) : v = .func (.func f) #[] #[] := by rw [Rep_imm] at h; unfold RepI at h; exact h
omit hI hT in
theorem mk_int {kk : IntKind} {z : Int} : Rep k s.B.length w (.imm (.int kk z)) (.int kk z) := by rw [Rep_imm]; unfold RepI; rfl
omit hI hT in
theorem mk_bool {b : Bool} : Rep k s.B.length w (.imm (.bool b)) (.bool b) := by rw [Rep_imm]; unfold RepI; rfl
omit hI hT in
theorem mk_str {b : ByteArray} : Rep k s.B.length w (.imm (.str b)) (.string b) := by rw [Rep_imm]; unfold RepI; rfl
omit hT in
/-- A reference to a box of the call's own. -/
theorem ref_box {r g off : Nat} {cs : List PV} {v : Value} (h : Rep k s.B.length w (.ptr r g off) v) (hb : s.B[r]? = some (.box g cs)) :
    ∃ b c ty, v = .pointer (some ⟨b, off, none⟩) ∧ k.ρ r = .pointer (some ⟨b, 0, none⟩) ∧ k.G r = g ∧ Γ.N ≤ b ∧ w.heap[b]? = some (.cells c ty (0, 0)) ∧ RepL k s.B.length w cs c.toList := by
  unfold Rep at h
  obtain ⟨_, h1, h2, h3⟩ := h
  obtain ⟨g1, b, c, ty, g2, g3, g4, g5⟩ := hI.blk r _ hb
  obtain ⟨b', e1, e2⟩ := h3 g1.symm
  rw [g2] at e1
  injection e1 with e1
  subst e1
  exact ⟨_, c, ty, e2, g2, g1, g3, g4, g5⟩
end
section
variable {P : Program} {w : World}
theorem run_isAgg {t : TypeId} {u : TypeDesc} (hu : P.underlying t = some u) : (isAgg t).run P w = .ok (aggD u) w := by
  unfold isAgg
  rw [Sem.run_bind, run_underlying hu w]
  cases u <;> rfl
theorem run_sizeOf {t : TypeId} {i : TypeInfo} (hi : P.info? t = some i) : (sizeOf t).run P w = .ok i.size w := by
  simp [sizeOf, typeInfo, hi]
theorem run_zero {t : TypeId} {i : TypeInfo} {z : Value} (hi : P.info? t = some i) (hz : i.zero = some z) : (zeroValue t).run P w = .ok z w := by
  simp [zeroValue, typeInfo, hi, hz]
theorem run_loadVar {t : TypeId} {d : TD} (h : tdOf P t = some d) (ad : Addr) (vs : List Value) (hl : vs.length = d.size) (hc : ∀ j u, vs[j]? = some u → w.cell? (ad.add j) = some u) (hs : d.agg = false → d.size = 1) :
    (loadVar t ad).run P w = .ok (if d.agg then .agg vs.toArray else vs.getD 0 undef) w := by
  obtain ⟨i, z, u, h1, h2, _, _, _, _, h7, h8, _⟩ := td_facts h
  unfold loadVar
  rw [Sem.run_bind, run_isAgg h2, Result.andThen_ok, ← h7]
  cases hd : d.agg with
  | true =>
    simp only [if_true]
    rw [Sem.run_bind, run_sizeOf h1, Result.andThen_ok, ← h8, ← hl, Sem.run_bind, run_loadCells_list (P := P) w ad vs hc]
    rfl
  | false =>
    simp only [Bool.false_eq_true, if_false]
    have h1 := hs hd
    rw [h1] at hl
    match vs, hl with
    | [x], _ =>
      have := hc 0 x rfl
      rw [run_load]
      simp only [Addr.add, if_true] at this
      rw [this]
      rfl
theorem td_one {t : TypeId} {d : TD} (h : tdOf P t = some d) (ha : d.agg = false) : d.size = 1 := by
  obtain ⟨i, z, u, h1, h2, h3, h4, _, h6, h7, h8, h9⟩ := td_facts h
  rw [← h7, ha] at h6
  have hz : z.cells.size = 1 := by cases z <;> first | rfl | (cases h6)
  have hl : ∀ (vs : List Value) (is : List IV), constsOf vs = some is → is.length = vs.length := fun vs is h => RepC_len (Q := fun _ => True) (w := default) (consts_rep h)
  have := hl _ _ h4
  rw [Array.length_toList, hz, h9, ← h8] at this
  exact this
end
section
variable {Γ : Ctx} {k : K} {w : World} {s : St} (hI : Inv Γ k s.B w)
include hI
/-- A reference to a row of the call's own. -/
theorem ref_row {r g sz : Nat} {el : TypeId} {es : List PV} {v : Value} (h : Rep k s.B.length w (.row r g) v) (hb : s.B[r]? = some (.row el sz g es)) :
    ∃ xs, v = k.ρ r ∧ w.ownsRow Γ.N el sz (k.ρ r) es.length xs ∧ RepE k s.B.length w sz es xs ∧ k.G r = g := by
  unfold Rep at h
  obtain ⟨_, _, _, h3⟩ := h
  obtain ⟨g1, xs, g2, g3⟩ := hI.blk r _ hb
  exact ⟨xs, h3 g1.symm, g2, g3, g1⟩
theorem ref_eptr0 {r g sz sz' i o : Nat} {el : TypeId} {es : List PV} {v : Value} (h : Rep k s.B.length w (.eptr r g sz i o) v) (hb : s.B[r]? = some (.row el sz' g es)) :
    ∃ b, base (k.ρ r) = some b ∧ v = .pointer (some ⟨b, i * sz + o, none⟩) := by
  unfold Rep at h
  obtain ⟨_, _, _, h3⟩ := h
  obtain ⟨g1, _⟩ := hI.blk r _ hb
  exact h3 g1.symm
/-- A row that holds something. -/
theorem row_open {r g sz : Nat} {el : TypeId} {es : List PV} (hb : s.B[r]? = some (.row el sz g es)) (hne : 0 < es.length) :
    ∃ b cap cur xs, k.ρ r = .slice (some ⟨b, 0, none⟩) es.length cap ∧ Γ.N ≤ b ∧ w.heap[b]? = some (.cells cur el (0, 0)) ∧ es.length ≤ cap ∧ cap ≤ maxLen ∧ cur.size = cap * sz ∧ cur.toList.take (es.length * sz) = xs ∧ xs.length = es.length * sz ∧ RepE k s.B.length w sz es xs ∧ k.G r = g := by
  obtain ⟨g1, xs, g2, g3⟩ := hI.blk r _ hb
  rcases g2.2 with ⟨_, e2⟩ | ⟨b, cap, cur, e1, e2, e3, e4, e5, e6, e7⟩
  · omega
  · exact ⟨b, cap, cur, xs, e1, e2, e3, e4, e5, e6, e7, g2.1, g3, g1⟩
end
section
variable {k : K} {w : World}
theorem own_form {N : Nat} {el : TypeId} {sz n : Nat} {v : Value} {xs : List Value} (h : w.ownsRow N el sz v n xs) : ∃ ad c, v = .slice ad n c := by
  rcases h.2 with ⟨rfl, rfl⟩ | ⟨g, cap, cur, rfl, _⟩
  · exact ⟨_, _, rfl⟩
  · exact ⟨_, _, rfl⟩
theorem own_base {N : Nat} {el : TypeId} {sz n : Nat} {v : Value} {xs : List Value} (h : w.ownsRow N el sz v n xs) : base v = v.ownBlock := by
  obtain ⟨ad, c, e⟩ := own_form h
  subst e
  cases ad <;> rfl
theorem RepE_len {kk : K} {n sz : Nat} : ∀ {es : List PV} {xs : List Value}, RepE kk n w sz es xs → xs.length = es.length * sz ∧ ∀ u ∈ xs, u.oneCell' = true
  | [], xs, h => by unfold RepE at h; subst h; simp
  | e :: es, xs, h => by
    unfold RepE at h
    obtain ⟨v, r, e1, h1, h2, h3, h4⟩ := h
    subst e1
    obtain ⟨g1, g2⟩ := RepE_len h4
    refine ⟨by rw [List.length_append, Array.length_toList, h1, g1, List.length_cons, Nat.succ_mul]; omega, fun u hu => ?_⟩
    rcases List.mem_append.1 hu with hu | hu
    · exact h2 u hu
    · exact g2 u hu
theorem RepE_at {n sz : Nat} : ∀ {es : List PV} {xs : List Value} {i : Nat} {p : PV}, RepE k n w sz es xs → es[i]? = some p → ∃ v, Rep k n w p v ∧ v.cells.size = sz ∧ ∀ j u, v.cells.toList[j]? = some u → xs[i * sz + j]? = some u
  | [], _, _, _, _, h => by simp at h
  | e :: es, xs, 0, p, hr, h => by
    unfold RepE at hr
    obtain ⟨v, r, e1, h1, h2, h3, h4⟩ := hr
    subst e1
    simp only [List.getElem?_cons_zero, Option.some.injEq] at h
    subst h
    refine ⟨v, h3, h1, fun j u hj => ?_⟩
    rw [Nat.zero_mul, Nat.zero_add, List.getElem?_append_left (by have := (List.getElem?_eq_some_iff.1 hj).1; exact this)]
    exact hj
  | e :: es, xs, i + 1, p, hr, h => by
    unfold RepE at hr
    obtain ⟨v, r, e1, h1, h2, h3, h4⟩ := hr
    subst e1
    obtain ⟨v', g1, g2, g3⟩ := RepE_at h4 (by simpa using h)
    refine ⟨v', g1, g2, fun j u hj => ?_⟩
    rw [List.getElem?_append_right (by rw [Array.length_toList, h1, Nat.succ_mul]; omega), Array.length_toList, h1]
    rw [show (i + 1) * sz + j - sz = i * sz + j by rw [Nat.succ_mul]; omega]
    exact g3 j u hj
theorem RepE_set {n sz : Nat} {p' : PV} {v' : Value} (hv : v'.cells.size = sz) (h1 : ∀ u ∈ v'.cells.toList, one u) (hp : Rep k n w p' v') : ∀ {es : List PV} {xs : List Value} {i : Nat}, RepE k n w sz es xs → i < es.length → RepE k n w sz (es.set i p') (xs.take (i * sz) ++ v'.cells.toList ++ xs.drop ((i + 1) * sz))
  | [], _, _, _, h => by simp at h
  | e :: es, xs, 0, hr, h => by
    unfold RepE at hr
    obtain ⟨v, r, e1, g1, g2, g3, g4⟩ := hr
    subst e1
    simp only [List.set_cons_zero]
    unfold RepE
    refine ⟨v', r, ?_, hv, h1, hp, g4⟩
    rw [Nat.zero_mul, List.take_zero, List.nil_append, Nat.zero_add, Nat.one_mul, List.drop_append, List.drop_of_length_le (by rw [Array.length_toList, g1]; exact Nat.le_refl _), Array.length_toList, g1]
    simp
  | e :: es, xs, i + 1, hr, h => by
    unfold RepE at hr
    obtain ⟨v, r, e1, g1, g2, g3, g4⟩ := hr
    subst e1
    have ih := RepE_set hv h1 hp (i := i) g4 (by simpa using h)
    simp only [List.set_cons_succ]
    unfold RepE
    refine ⟨v, _, ?_, g1, g2, g3, ih⟩
    have hl : v.cells.toList.length = sz := by rw [Array.length_toList, g1]
    rw [List.take_append, List.take_of_length_le (by rw [hl, Nat.succ_mul]; omega), List.drop_append, List.drop_of_length_le (by rw [hl, Nat.succ_mul]; omega), hl]
    rw [show (i + 1) * sz - sz = i * sz by rw [Nat.succ_mul]; omega, show (i + 1 + 1) * sz - sz = (i + 1) * sz by rw [Nat.succ_mul]; omega]
    simp
/-- An element whose cells were written. -/
theorem join_rep {n : Nat} {p : PV} {v : Value} {cs cs' : List PV} {vs' : List Value} (h : Rep k n w p v) (hc : cellsP p = some cs) (hl : cs'.length = cs.length) (hr : RepL k n w cs' vs') :
    ∃ v', Rep k n w (joinP p cs') v' ∧ v'.cells.toList = vs' := by
  have single : cs.length = 1 → (∀ c, cs' = [c] → joinP p cs' = c) → ∃ v', Rep k n w (joinP p cs') v' ∧ v'.cells.toList = vs' := by
    intro h1 h2
    match cs', hl.trans h1, hr with
    | [c], _, hr =>
      unfold RepL at hr
      obtain ⟨u, r, e, h3, h4, h5⟩ := hr
      unfold RepL at h5
      subst h5
      subst e
      refine ⟨u, by rw [h2 c rfl]; exact h4, ?_⟩
      cases u <;> first | rfl | (simp [one, Value.oneCell'] at h3)
  cases p with
  | any => cases hc
  | tup _ => cases hc
  | agg ps => exact ⟨.agg vs'.toArray, Rep_norm (Rep_agg.2 ⟨vs', rfl, hr⟩), rfl⟩
  | imm i =>
    cases i with
    | agg is => exact ⟨.agg vs'.toArray, Rep_norm (Rep_agg.2 ⟨vs', rfl, hr⟩), rfl⟩
    | _ =>
      simp only [cellsP, cellsI, Option.some.injEq] at hc
      refine single (by rw [← hc]; rfl) (fun c e => by rw [e]; rfl)
  | _ =>
    simp only [cellsP, Option.some.injEq] at hc
    refine single (by rw [← hc]; rfl) (fun c e => by rw [e]; rfl)
end
end Go.Pv
