/-
  Plain values: what the memory of a call holds, said without memory. Definitions, and that they stay true when memory grows. Plain values: the types of a program, and what one operation does to plain values. Plain values: what a new block and a store do to a state. Plain values: that an operation does to memory what 'absOp' says. Plain values: each operation. Plain values: structs and slices made, slices cut, appends, structs compared. Plain values: maps of the call's own.
-/
import Derived.Calls
import Derived.Orders
import Derived.Below
import Derived.Laws.AppendOwn
import Derived.Deep.Draws
import Derived.MapKept
import Derived.Maps.RangeRun
import Derived.Laws.Tables
import Derived.Laws.Entries
import Derived.Laws.Small
import Derived.Laws.Strings
import Derived.Laws.Pointers
import Derived.Maps.AppendAt
import Derived.Lib.AppendStr
import Derived.Laws.StructEq
import Derived.ChangeMaps3
import Derived.Laws.MakeOwn
import Derived.WideKeyRuns
namespace Go.Pv
open Go.RowKit (Below)
inductive IV
 | bool (b : Bool)
 | int (k : IntKind) (z : Int)
 | str (s : ByteArray)
 | fn (f : FuncId)
 | nil
 | np
 | nm
 | nf
 | agg (cs : List IV)
 | sl (sz : Nat) (es : List IV)
 | clo (f : FuncId) (cs : List IV)
 | ip (cs : List IV)
 deriving Inhabited
inductive CK
 | int (k : IntKind)
 | str
 | bool
 deriving DecidableEq
inductive MK
 | int (k : IntKind)
 | str
 | bool
 | cells (t : TypeId) (ks : List CK)
 | iter (b : Bool)
 deriving DecidableEq, Inhabited
inductive PV
 | any
 | imm (i : IV)
 | agg (cs : List PV)
 | tup (cs : List PV)
 | ptr (r g o : Nat)
 | row (r g : Nat)
 | eptr (r g sz i o : Nat)
 | sub (r g sz h n : Nat)
 | iptr (cs : List IV)
 | ful (sz : Nat) (es : List IV)
 | clo (f : FuncId) (cs : List PV)
 deriving Inhabited
inductive Blk
 | dead (g : Nat)
 | box (g : Nat) (cs : List PV) (t : Option TypeId := none)
 | row (e : TypeId) (sz g : Nat) (es : List PV)
 | map (kk : MK) (g : Nat) (ps : List (IV × IV))
 deriving Inhabited
def one (v : Value) : Prop := v.oneCell' = true
section imm
variable (Q : Nat → Prop) (w : World)
mutual
def RepI : IV → Value → Prop
 | .bool b, v => v = .bool b
 | .int k z, v => v = .int k z
 | .str s, v => v = .string s
 | .fn f, v => v = .func (.func f) #[] #[]
 | .nil, v => v = .slice none 0 0
 | .np, v => v = .pointer none
 | .nm, v => v = .map none
 | .nf, v => v = .nilFunc
 | .agg cs, v => ∃ vs : List Value, v = .agg vs.toArray ∧ RepC cs vs
 | .sl sz es, v => ∃ (a : Option Addr) (c : Nat), v = .slice a es.length c ∧ es.length ≤ c ∧ c ≤ maxLen ∧ (0 < es.length → ∃ b off, a = some ⟨b, off, none⟩ ∧ Q b ∧ RepR sz b off es)
 | .clo f cs, v => ∃ vs : List Value, v = .func (.func f) #[] vs.toArray ∧ RepC cs vs
 | .ip cs, v => ∃ b off vs, v = .pointer (some ⟨b, off, none⟩) ∧ Q b ∧ RepC cs vs ∧ ∀ j u, vs[j]? = some u → w.cell? ⟨b, off + j, none⟩ = some u
def RepC : List IV → List Value → Prop
 | [], vs => vs = []
 | c :: cs, vs => ∃ v r, vs = v :: r ∧ one v ∧ RepI c v ∧ RepC cs r
def RepR (sz b : Nat) : Nat → List IV → Prop
 | _, [] => True
 | off, e :: es => (∃ v, RepI e v ∧ v.cells.size = sz ∧ ∀ j u, v.cells[j]? = some u → w.cell? ⟨b, off + j, none⟩ = some u) ∧ RepR sz b (off + sz) es
end
end imm
structure K where
 ρ : Nat → Value
 G : Nat → Nat
 Q : Nat → Prop
def base : Value → Option Nat
 | .pointer (some a) => some a.block
 | .slice (some a) _ _ => some a.block
 | .map (some b) => some b
 | _ => none
def Sub (sz h n : Nat) (x v : Value) : Prop := ∃ a c ad len cap, v = .slice a n c ∧ n ≤ c ∧ c ≤ maxLen ∧ x = .slice ad len cap ∧ h + n ≤ len ∧ (0 < n → ∃ b, ad = some ⟨b, 0, none⟩ ∧ a = some ⟨b, h * sz, none⟩)
def Ref (k : K) (n r g : Nat) (p : Value → Prop) : Prop := r < n ∧ g ≤ k.G r ∧ (g = k.G r → p (k.ρ r))
section
variable (k : K) (n : Nat) (w : World)
mutual
def Rep : PV → Value → Prop
 | .any, _ => True
 | .imm i, v => RepI k.Q w i v
 | .agg cs, v => ∃ vs : List Value, v = .agg vs.toArray ∧ RepL cs vs
 | .tup cs, v => ∃ vs : List Value, v = .tuple vs.toArray ∧ RepT cs vs
 | .ptr r g o, v => one v ∧ Ref k n r g fun x => ∃ b, base x = some b ∧ v = .pointer (some ⟨b, o, none⟩)
 | .row r g, v => one v ∧ Ref k n r g fun x => v = x
 | .eptr r g sz i o, v => one v ∧ Ref k n r g fun x => ∃ b, base x = some b ∧ v = .pointer (some ⟨b, i * sz + o, none⟩)
 | .sub r g sz h m, v => one v ∧ Ref k n r g fun x => Sub sz h m x v
 | .iptr cs, v => ∃ b off vs, v = .pointer (some ⟨b, off, none⟩) ∧ k.Q b ∧ RepC k.Q w cs vs ∧ ∀ j u, vs[j]? = some u → w.cell? ⟨b, off + j, none⟩ = some u
 | .ful sz es, v => RepI k.Q w (.sl sz es) v ∧ ∃ a, v = .slice a es.length es.length
 | .clo f cs, v => ∃ vs : List Value, v = .func (.func f) #[] vs.toArray ∧ RepT cs vs
def RepL : List PV → List Value → Prop
 | [], vs => vs = []
 | c :: cs, vs => ∃ v r, vs = v :: r ∧ one v ∧ Rep c v ∧ RepL cs r
def RepT : List PV → List Value → Prop
 | [], vs => vs = []
 | c :: cs, vs => ∃ v r, vs = v :: r ∧ Rep c v ∧ RepT cs r
end
end
structure Ext (k : K) (n : Nat) (w : World) (k' : K) (n' : Nat) (w' : World) : Prop where
 le : n ≤ n'
 q : ∀ b, k.Q b → k'.Q b ∧ w'.heap[b]? = w.heap[b]?
 r : ∀ r, r < n → k.G r ≤ k'.G r ∧ (k'.G r = k.G r → k'.ρ r = k.ρ r)
theorem Ext.refl (k : K) (n : Nat) (w : World) : Ext k n w k n w := ⟨Nat.le_refl _, fun _ h => ⟨h, rfl⟩, fun _ _ => ⟨Nat.le_refl _, fun _ => rfl⟩⟩
theorem Ext.trans {k k' k'' : K} {n n' n'' : Nat} {w w' w'' : World} (h : Ext k n w k' n' w') (h' : Ext k' n' w' k'' n'' w'') : Ext k n w k'' n'' w'' := by
 refine ⟨Nat.le_trans h.le h'.le, fun b hb => ?_, fun r hr => ?_⟩
 · obtain ⟨h1, h2⟩ := h.q b hb
   obtain ⟨h3, h4⟩ := h'.q b h1
   exact ⟨h3, h4.trans h2⟩
 · obtain ⟨h1, h2⟩ := h.r r hr
   obtain ⟨h3, h4⟩ := h'.r r (Nat.lt_of_lt_of_le hr h.le)
   refine ⟨Nat.le_trans h1 h3, fun e => ?_⟩
   have e1 : k'.G r = k.G r := Nat.le_antisymm (e ▸ h3) h1
   exact (h4 (e.trans e1.symm)).trans (h2 e1)
mutual
theorem RepI_mono {Q Q' : Nat → Prop} {w w' : World} (h : ∀ b, Q b → Q' b ∧ w'.heap[b]? = w.heap[b]?) : ∀ (i : IV) (v : Value), RepI Q w i v → RepI Q' w' i v
 | .bool _, _, hi => by simpa [RepI] using hi
 | .int _ _, _, hi => by simpa [RepI] using hi
 | .str _, _, hi => by simpa [RepI] using hi
 | .fn _, _, hi => by simpa [RepI] using hi
 | .nil, _, hi => by simpa [RepI] using hi
 | .np, _, hi => by simpa [RepI] using hi
 | .nm, _, hi => by simpa [RepI] using hi
 | .nf, _, hi => by simpa [RepI] using hi
 | .agg cs, v, hi => by
   unfold RepI at hi ⊢
   obtain ⟨vs, e, hc⟩ := hi
   exact ⟨vs, e, RepC_mono h cs vs hc⟩
 | .sl sz es, v, hi => by
   unfold RepI at hi ⊢
   obtain ⟨a, c, e, h1, h2, h3⟩ := hi
   refine ⟨a, c, e, h1, h2, fun hp => ?_⟩
   obtain ⟨b, off, ea, hq, hr⟩ := h3 hp
   exact ⟨b, off, ea, (h b hq).1, RepR_mono h (h b hq).2 sz off es hr⟩
 | .clo f cs, v, hi => by
   unfold RepI at hi ⊢
   obtain ⟨vs, e, hc⟩ := hi
   exact ⟨vs, e, RepC_mono h cs vs hc⟩
 | .ip cs, v, hi => by
   unfold RepI at hi ⊢
   obtain ⟨b, off, vs, e, hq, hc, hj⟩ := hi
   exact ⟨b, off, vs, e, (h b hq).1, RepC_mono h cs vs hc, fun j u hu => (World.cell?_of_block (w := w) (w' := w') (a := ⟨b, off + j, none⟩) (h b hq).2).trans (hj j u hu)⟩
theorem RepC_mono {Q Q' : Nat → Prop} {w w' : World} (h : ∀ b, Q b → Q' b ∧ w'.heap[b]? = w.heap[b]?) : ∀ (cs : List IV) (vs : List Value), RepC Q w cs vs → RepC Q' w' cs vs
 | [], _, hc => by simpa [RepC] using hc
 | c :: cs, vs, hc => by
   unfold RepC at hc ⊢
   obtain ⟨v, r, e, h1, h2, h3⟩ := hc
   exact ⟨v, r, e, h1, RepI_mono h c v h2, RepC_mono h cs r h3⟩
theorem RepR_mono {Q Q' : Nat → Prop} {w w' : World} {b : Nat} (h : ∀ b, Q b → Q' b ∧ w'.heap[b]? = w.heap[b]?) (hb : w'.heap[b]? = w.heap[b]?) (sz : Nat) : ∀ (off : Nat) (es : List IV), RepR Q w sz b off es → RepR Q' w' sz b off es
 | _, [], _ => by unfold RepR; trivial
 | off, e :: es, hr => by
   unfold RepR at hr ⊢
   obtain ⟨⟨v, h1, h2, h3⟩, h4⟩ := hr
   exact ⟨⟨v, RepI_mono h e v h1, h2, fun j u hj => (World.cell?_of_block (w := w) (w' := w') (a := ⟨b, off + j, none⟩) hb).trans (h3 j u hj)⟩, RepR_mono h hb sz (off + sz) es h4⟩
end
theorem Ref.mono {k k' : K} {n n' r g : Nat} {w w' : World} {p : Value → Prop} (h : Ext k n w k' n' w') (hr : Ref k n r g p) : Ref k' n' r g p := by
 obtain ⟨h1, h2, h3⟩ := hr
 obtain ⟨h4, h5⟩ := h.r r h1
 refine ⟨Nat.lt_of_lt_of_le h1 h.le, Nat.le_trans h2 h4, fun e => ?_⟩
 have e1 : k'.G r = k.G r := Nat.le_antisymm (e ▸ h2) h4
 rw [h5 e1]
 exact h3 (e.trans e1)
mutual
theorem Rep_mono {k k' : K} {n n' : Nat} {w w' : World} (h : Ext k n w k' n' w') : ∀ (p : PV) (v : Value), Rep k n w p v → Rep k' n' w' p v
 | .any, _, _ => by unfold Rep; trivial
 | .imm i, v, hp => by unfold Rep at hp ⊢; exact RepI_mono h.q i v hp
 | .agg cs, v, hp => by
   unfold Rep at hp ⊢
   obtain ⟨vs, e, hc⟩ := hp
   exact ⟨vs, e, RepL_mono h cs vs hc⟩
 | .tup cs, v, hp => by
   unfold Rep at hp ⊢
   obtain ⟨vs, e, hc⟩ := hp
   exact ⟨vs, e, RepT_mono h cs vs hc⟩
 | .ptr r g o, v, hp => by unfold Rep at hp ⊢; exact ⟨hp.1, hp.2.mono h⟩
 | .row r g, v, hp => by unfold Rep at hp ⊢; exact ⟨hp.1, hp.2.mono h⟩
 | .eptr r g sz i o, v, hp => by unfold Rep at hp ⊢; exact ⟨hp.1, hp.2.mono h⟩
 | .sub r g sz _ _, v, hp => by unfold Rep at hp ⊢; exact ⟨hp.1, hp.2.mono h⟩
 | .ful sz es, v, hp => by
   unfold Rep at hp ⊢
   exact ⟨RepI_mono h.q _ v hp.1, hp.2⟩
 | .iptr cs, v, hp => by
   unfold Rep at hp ⊢
   obtain ⟨b, off, vs, e, hq, hc, hj⟩ := hp
   exact ⟨b, off, vs, e, (h.q b hq).1, RepC_mono h.q cs vs hc, fun j u hu => (World.cell?_of_block (w := w) (w' := w') (a := ⟨b, off + j, none⟩) (h.q b hq).2).trans (hj j u hu)⟩
 | .clo f cs, v, hp => by
   unfold Rep at hp ⊢
   obtain ⟨vs, e, hc⟩ := hp
   exact ⟨vs, e, RepT_mono h cs vs hc⟩
theorem RepL_mono {k k' : K} {n n' : Nat} {w w' : World} (h : Ext k n w k' n' w') : ∀ (cs : List PV) (vs : List Value), RepL k n w cs vs → RepL k' n' w' cs vs
 | [], _, hc => by simpa [RepL] using hc
 | c :: cs, vs, hc => by
   unfold RepL at hc ⊢
   obtain ⟨v, r, e, h1, h2, h3⟩ := hc
   exact ⟨v, r, e, h1, Rep_mono h c v h2, RepL_mono h cs r h3⟩
theorem RepT_mono {k k' : K} {n n' : Nat} {w w' : World} (h : Ext k n w k' n' w') : ∀ (cs : List PV) (vs : List Value), RepT k n w cs vs → RepT k' n' w' cs vs
 | [], _, hc => by simpa [RepT] using hc
 | c :: cs, vs, hc => by
   unfold RepT at hc ⊢
   obtain ⟨v, r, e, h2, h3⟩ := hc
   exact ⟨v, r, e, Rep_mono h c v h2, RepT_mono h cs r h3⟩
end
theorem Rep_imm {k : K} {n : Nat} {w : World} {i : IV} {v : Value} : Rep k n w (.imm i) v ↔ RepI k.Q w i v := by unfold Rep; exact Iff.rfl
theorem Rep_agg {k : K} {n : Nat} {w : World} {cs : List PV} {v : Value} : Rep k n w (.agg cs) v ↔ ∃ vs : List Value, v = .agg vs.toArray ∧ RepL k n w cs vs := by
 constructor <;> (intro h; unfold Rep at *; exact h)
theorem RepI_agg {Q : Nat → Prop} {w : World} {cs : List IV} {v : Value} : RepI Q w (.agg cs) v ↔ ∃ vs : List Value, v = .agg vs.toArray ∧ RepC Q w cs vs := by
 constructor <;> (intro h; unfold RepI at *; exact h)
theorem Rep_any (k : K) (n : Nat) (w : World) (v : Value) : Rep k n w .any v := by unfold Rep; trivial
def shapeB : List IV → List CK → Bool
 | [], [] => true
 | .int k _ :: is, .int k' :: ks => decide (k = k') && shapeB is ks
 | .str _ :: is, .str :: ks => shapeB is ks
 | .bool _ :: is, .bool :: ks => shapeB is ks
 | _, _ => false
def eqC : List IV → List IV → Bool
 | .int _ a :: is, .int _ b :: js => decide (a = b) && eqC is js
 | .str a :: is, .str b :: js => decide (a = b) && eqC is js
 | .bool a :: is, .bool b :: js => (a == b) && eqC is js
 | _, _ => true
def keyB : MK → IV → Bool
 | .int k, .int k' _ => decide (k = k')
 | .str, .str _ => true
 | .bool, .bool _ => true
 | .cells _ ks, .agg cs => shapeB cs ks
 | _, _ => false
def keysB (kk : MK) : List (IV × IV) → Bool
 | [] => true
 | p :: ps => keyB kk p.1 && keysB kk ps
def eqI : IV → IV → Bool
 | .int _ a, .int _ b => decide (a = b)
 | .str a, .str b => decide (a = b)
 | .bool a, .bool b => a == b
 | .agg a, .agg b => eqC a b
 | _, _ => false
def lookM : List (IV × IV) → IV → Option IV
 | [], _ => none
 | (x, y) :: ps, a => if eqI x a then some y else lookM ps a
def putM : List (IV × IV) → IV → IV → List (IV × IV)
 | [], a, b => [(a, b)]
 | (x, y) :: ps, a, b => if eqI x a then (x, b) :: ps else (x, y) :: putM ps a b
def delM : List (IV × IV) → IV → List (IV × IV)
 | [], _ => []
 | (x, y) :: ps, a => if eqI x a then ps else (x, y) :: delM ps a
def RepM (Q : Nat → Prop) (w : World) : List (IV × IV) → List MapEntry → Prop
 | [], es => es = []
 | (a, b) :: ps, es => ∃ e r, es = e :: r ∧ RepI Q w a e.key ∧ RepI Q w b e.val ∧ RepM Q w ps r
def IterRep (N : Nat) (Q : Nat → Prop) (w : World) (v : Value) (b : Bool) (ps : List (IV × IV)) : Prop :=
 ∃ ib m es clock seen, v = .pointer (some ⟨ib, 0, none⟩) ∧ N ≤ ib ∧ w.heap[ib]? = some (.mapIter (some m) clock seen clock) ∧ Q m ∧ w.heap[m]? = some (.map es clock) ∧ MapKept.Stamped es clock ∧
   match b with
   | false => RepM Q w ps (leftOf es seen).toList
   | true => ∃ (p : IV × IV) (l : List (IV × IV)) (e : MapEntry), ps = p :: l ∧ RepM Q w l (leftOf es seen).toList ∧ e ∈ es.toList ∧ (∃ seen' : Array Nat, seen = seen'.push e.born) ∧ RepI Q w p.1 e.key ∧ RepI Q w p.2 e.val
def MapRep (N : Nat) (Q : Nat → Prop) (w : World) (v : Value) (kk : MK) (ps : List (IV × IV)) : Prop :=
 match kk with
 | .iter b => IterRep N Q w v b ps
 | kk => ∃ b es clock, v = .map (some b) ∧ N ≤ b ∧ w.heap[b]? = some (.map es clock) ∧ RepM Q w ps es.toList ∧ keysB kk ps = true ∧ MapKept.Stamped es clock
def isIter : MK → Bool
 | .iter _ => true
 | _ => false
theorem MapRep_map {N : Nat} {Q : Nat → Prop} {w : World} {v : Value} {kk : MK} {ps : List (IV × IV)} (h : isIter kk = false) : MapRep N Q w v kk ps ↔ ∃ b es clock, v = .map (some b) ∧ N ≤ b ∧ w.heap[b]? = some (.map es clock) ∧ RepM Q w ps es.toList ∧ keysB kk ps = true ∧ MapKept.Stamped es clock := by
 cases kk <;> first | exact Iff.rfl | cases h
theorem RepM_mono {Q Q' : Nat → Prop} {w w' : World} (h : ∀ b, Q b → Q' b ∧ w'.heap[b]? = w.heap[b]?) : ∀ (ps : List (IV × IV)) (es : List MapEntry), RepM Q w ps es → RepM Q' w' ps es
 | [], _, hc => by simpa [RepM] using hc
 | (a, b) :: ps, es, hc => by
   unfold RepM at hc ⊢
   obtain ⟨e, r, h0, h1, h2, h3⟩ := hc
   exact ⟨e, r, h0, RepI_mono h a _ h1, RepI_mono h b _ h2, RepM_mono h ps r h3⟩
theorem IterRep.mono {N : Nat} {Q Q' : Nat → Prop} {w w' : World} {v : Value} {b : Bool} {ps : List (IV × IV)} (hm : IterRep N Q w v b ps) (h : ∀ b, Q b → Q' b ∧ w'.heap[b]? = w.heap[b]?) (hb : ∀ b, base v = some b → w'.heap[b]? = w.heap[b]?) : IterRep N Q' w' v b ps := by
 obtain ⟨ib, m, es, clock, seen, h1, h2, h3, h4, h5, h6, h7⟩ := hm
 refine ⟨ib, m, es, clock, seen, h1, h2, (hb ib (by rw [h1]; rfl)).trans h3, (h m h4).1, (h m h4).2.trans h5, h6, ?_⟩
 cases b with
 | false => exact RepM_mono h ps _ h7
 | true =>
   obtain ⟨p, l, e, g1, g2, g3, g4, g5, g6⟩ := h7
   exact ⟨p, l, e, g1, RepM_mono h l _ g2, g3, g4, RepI_mono h _ _ g5, RepI_mono h _ _ g6⟩
theorem MapRep.mono {N : Nat} {Q Q' : Nat → Prop} {w w' : World} {v : Value} {kk : MK} {ps : List (IV × IV)} (hm : MapRep N Q w v kk ps) (h : ∀ b, Q b → Q' b ∧ w'.heap[b]? = w.heap[b]?) (hb : ∀ b, base v = some b → w'.heap[b]? = w.heap[b]?) : MapRep N Q' w' v kk ps := by
 cases hk : isIter kk with
 | true =>
   cases kk with
   | iter b => exact IterRep.mono hm h hb
   | _ => cases hk
 | false =>
   rw [MapRep_map hk] at hm ⊢
   obtain ⟨b, es, clock, h1, h2, h3, h4, h5⟩ := hm
   exact ⟨b, es, clock, h1, h2, (hb b (by rw [h1]; rfl)).trans h3, RepM_mono h ps _ h4, h5⟩
theorem MapRep.same {N : Nat} {Q Q' : Nat → Prop} {w : World} {v : Value} {kk : MK} {ps : List (IV × IV)} (hm : MapRep N Q w v kk ps) (h : ∀ b, Q b → Q' b) : MapRep N Q' w v kk ps := hm.mono (fun b hb => ⟨h b hb, rfl⟩) (fun _ _ => rfl)
structure Env where
 gl : Nat → Option (List IV)
 R : World → Prop
 st : ∀ w w', R w → Below w.heap.size w w' → R w'
structure Ctx where
 N : Nat
 w0 : World
 X : Env
 Q0 : Nat → Prop
 eqT : TypeId → Option (List CK)
 F : Nat → Prop
 w1 : World
 k0 : K
 n0 : Nat
def RepE (k : K) (n : Nat) (w : World) (sz : Nat) : List PV → List Value → Prop
 | [], xs => xs = []
 | e :: es, xs => ∃ v r, xs = v.cells.toList ++ r ∧ v.cells.size = sz ∧ (∀ u ∈ v.cells.toList, one u) ∧ Rep k n w e v ∧ RepE k n w sz es r
def BlkRep (Γ : Ctx) (k : K) (n : Nat) (w : World) (r : Nat) : Blk → Prop
 | .dead g => k.G r = g
 | .box g cs t => k.G r = g ∧ ∃ b c ty, k.ρ r = .pointer (some ⟨b, 0, none⟩) ∧ Γ.N ≤ b ∧ w.heap[b]? = some (.cells c (t.getD ty) (0, 0)) ∧ RepL k n w cs c.toList
 | .row e sz g es => k.G r = g ∧ ∃ xs, w.ownsRow Γ.N e sz (k.ρ r) es.length xs ∧ RepE k n w sz es xs
 | .map kk g ps => k.G r = g ∧ MapRep Γ.N k.Q w (k.ρ r) kk ps
def own (k : K) (r : Nat) : Blk → Option Nat
 | .dead _ => none
 | _ => base (k.ρ r)
def held (R : World → Prop) (N : Nat) (w : World) : Prop := ∃ w1, R w1 ∧ w1.heap.size ≤ N ∧ Below w1.heap.size w1 w
theorem held.below {R : World → Prop} {N : Nat} {w w' : World} (h : held R N w) (hb : Below N w w') : held R N w' := by
 obtain ⟨w1, h1, h2, h3⟩ := h
 exact ⟨w1, h1, h2, h3.trans (hb.mono h2)⟩
structure Keeps (Γ : Ctx) (k : K) (n : Nat) (w : World) : Prop where
 fr : ∀ b, Γ.F b → b < w.heap.size ∧ w.heap[b]? = Γ.w1.heap[b]? ∧ ¬ k.Q b
 ext : Ext Γ.k0 Γ.n0 Γ.w1 k n w
structure Inv (Γ : Ctx) (k : K) (B : List Blk) (w : World) : Prop where
 below : Below Γ.N Γ.w0 w
 lt : ∀ b, k.Q b → b < w.heap.size
 le : Γ.N ≤ w.heap.size
 qs : ∀ b, k.Q b → Γ.Q0 b ∨ Γ.N ≤ b
 rr : held Γ.X.R Γ.N w
 gl : ∀ g cs, Γ.X.gl g = some cs → Rep k B.length w (.iptr cs) (.pointer (some ⟨g, 0, none⟩))
 blk : ∀ r x, B[r]? = some x → BlkRep Γ k B.length w r x
 sep : ∀ r x b, B[r]? = some x → own k r x = some b → ¬ k.Q b ∧ Γ.N ≤ b ∧ b < w.heap.size
 inj : ∀ r r' x x' b, B[r]? = some x → B[r']? = some x' → own k r x = some b → own k r' x' = some b → r = r'
 kp : Keeps Γ k B.length w
 nf : ∀ r x b, B[r]? = some x → own k r x = some b → ¬ Γ.F b
structure St where
 E : List PV
 B : List Blk
def γ (Γ : Ctx) (s : St) (a : Act) (w : World) : Prop := a.defers = [] ∧ ∃ k, Inv Γ k s.B w ∧ RepT k s.B.length w s.E a.tmps.toList
end Go.Pv
namespace Go.Pv
inductive TK
 | int (k : IntKind) | str | bool | ptr (e : TypeId) | struct (fs : List (Nat × Nat × Bool)) | slice (e : TypeId) (sz bytes : Nat) | map (k e : TypeId) | fn | arr (n : Nat) (e : TypeId) (sz : Nat) | other
 deriving Inhabited
structure TD where
 agg : Bool
 size : Nat
 zero : List IV
 kind : TK
 deriving Inhabited
def constOf : Value → Option IV
 | .bool b => some (.bool b)
 | .int k z => some (.int k z)
 | .string s => some (.str s)
 | .slice none 0 0 => some .nil
 | .func (.func f) a b => if a.size = 0 ∧ b.size = 0 then some (.fn f) else none
 | .pointer none => some .np
 | .map none => some .nm
 | .nilFunc => some .nf
 | _ => none
def aggD : TypeDesc → Bool
 | .struct _ | .array _ _ => true
 | _ => false
def aggV : Value → Bool
 | .agg _ => true
 | _ => false
def constsOf : List Value → Option (List IV)
 | [] => some []
 | v :: r => match constOf v, constsOf r with
   | some i, some is => some (i :: is)
   | _, _ => none
def fieldsOf (P : Program) : List Field → Option (List (Nat × Nat × Bool))
 | [] => some []
 | f :: r => match P.info? f.type, P.underlying f.type, fieldsOf P r with
   | some i, some u, some fs => some ((f.offset, i.size, aggD u) :: fs)
   | _, _, _ => none
def kindOf (P : Program) : TypeDesc → Option TK
 | .int k => some (.int k)
 | .string => some .str
 | .bool => some .bool
 | .struct fs => (fieldsOf P fs.toList).map .struct
 | .slice e => (P.info? e).map fun i => .slice e i.size i.bytes
 | .pointer e => some (.ptr e)
 | .map k e => some (.map k e)
 | .func _ _ _ => some .fn
 | .array n e => (P.info? e).map fun i => .arr n e i.size
 | _ => some .other
def arrOf : TK → Option Nat
 | .arr n _ 1 => some n
 | _ => none
def tdOf (P : Program) (t : TypeId) : Option TD :=
 match P.info? t, P.underlying t with
 | some i, some u => match i.zero with
   | some z => match constsOf z.cells.toList, kindOf P u with
     | some zs, some k => if aggV z = aggD u ∧ zs.length = i.size then some ⟨aggD u, i.size, zs, k⟩ else none
     | _, _ => none
   | none => none
 | _, _ => none
def cellsI : IV → List IV
 | .agg cs => cs
 | i => [i]
def cellsP : PV → Option (List PV)
 | .any => none
 | .tup _ => none
 | .agg cs => some cs
 | .imm i => some ((cellsI i).map .imm)
 | p => some [p]
def imms : List PV → Option (List IV)
 | [] => some []
 | .imm i :: r => match imms r with
   | some is => some (i :: is)
   | none => none
 | _ :: _ => none
def norm : PV → PV
 | .agg cs => match imms cs with
   | some is => .imm (.agg is)
   | none => .agg cs
 | p => p
def elems : PV → Option (List IV)
 | .imm .nil => some []
 | .imm (.sl _ es) => some es
 | _ => none
def constOf2 : Value → Option IV
 | .agg vs => match constsOf vs.toList with
   | some cs => some (.agg cs)
   | none => none
 | v => constOf v
def pconst (v : Value) : PV := match constOf2 v with
 | some i => .imm i
 | none => .any
structure Orc where
 reads : List Nat
 res : PV
 ws : List (Nat × Blk)
structure Ob where
 f : FuncId
 args : List PV
 rs : List (Nat × Blk)
 res : PV
 ws : List (Nat × Blk)
structure Out where
 v : PV
 ws : List (Nat × Blk)
 ob : Option Ob
def val (v : PV) : Option Out := some ⟨v, [], none⟩
def most : Nat := 1000000000
abbrev Room (bytes n : Nat) : Prop := n ≤ most ∨ (n ≤ 140737488355328 ∧ n * bytes ≤ 140737488355328)
def binInt (op : BinOp) (k : IntKind) (a b : Int) : Option IV :=
 match op with
 | .add => some (.int k (k.wrap (a + b)))
 | .sub => some (.int k (k.wrap (a - b)))
 | .mul => some (.int k (k.wrap (a * b)))
 | .eql => some (.bool (a == b))
 | .neq => some (.bool (a != b))
 | .lss => some (.bool (decide (a < b)))
 | .leq => some (.bool (decide (a ≤ b)))
 | .gtr => some (.bool (decide (a > b)))
 | .geq => some (.bool (decide (a ≥ b)))
 | .quo => if b = 0 then none else some (.int k (k.wrap (a.tdiv b)))
 | .rem => if b = 0 then none else some (.int k (a.tmod b))
 | .and => some (.int k (k.wrap (BitVec.ofInt k.bits a &&& BitVec.ofInt k.bits b).toNat))
 | .or => some (.int k (k.wrap (BitVec.ofInt k.bits a ||| BitVec.ofInt k.bits b).toNat))
 | .xor => some (.int k (k.wrap (BitVec.ofInt k.bits a ^^^ BitVec.ofInt k.bits b).toNat))
 | _ => none
def lessB (a b : ByteArray) : Bool := Op.bytesLess a.data.toList b.data.toList
def binStr (op : BinOp) (a b : ByteArray) : Option IV :=
 match op with
 | .eql => some (.bool (decide (a = b)))
 | .neq => some (.bool (!decide (a = b)))
 | .add => if a.size + b.size ≤ most then some (.str (a ++ b)) else none
 | .lss => some (.bool (lessB a b))
 | .leq => some (.bool (lessB a b || decide (a = b)))
 | .gtr => some (.bool (!(lessB a b || decide (a = b))))
 | .geq => some (.bool (!lessB a b))
 | _ => none
def binShift (op : BinOp) (k : IntKind) (a b : Int) : Option IV :=
 match op with
 | .shl => if b < 0 then none else some (.int k (k.wrap (a * 2 ^ (min b.toNat k.bits))))
 | .shr => if b < 0 then none else some (.int k (a.fdiv (2 ^ (min b.toNat k.bits))))
 | _ => none
def isShift : BinOp → Bool
 | .shl | .shr => true
 | _ => false
def byteP : PV → Option UInt8
 | .imm (.int .u8 z) => if 0 ≤ z ∧ z < 256 then some (UInt8.ofNat z.toNat) else none
 | _ => none
def bytesP : List PV → Option (List UInt8)
 | [] => some []
 | p :: r => match byteP p, bytesP r with
   | some b, some bs => some (b :: bs)
   | _, _ => none
def binP (op : BinOp) : PV → PV → Option IV
 | .imm (.int k a), .imm (.int k' b) => if isShift op then binShift op k a b else if k = k' then binInt op k a b else none
 | .imm (.str a), .imm (.str b) => binStr op a b
 | _, _ => none
def partP (cs : List PV) (off size : Nat) (agg : Bool) : Option PV :=
 if agg then (if off + size ≤ cs.length then some (norm (.agg ((cs.drop off).take size))) else none) else cs[off]?
def partI (cs : List IV) (off size : Nat) (agg : Bool) : Option IV :=
 if agg then (if off + size ≤ cs.length then some (.agg ((cs.drop off).take size)) else none) else cs[off]?
def fillP (fs : List (Nat × Nat × Bool)) (cs : List PV) : List (Nat × PV) → Option (List PV)
 | [] => some cs
 | (i, p) :: r => match fs[i]?, cellsP p with
   | some (fo, fz, _), some ps => if ps.length = fz ∧ fo + fz ≤ cs.length then fillP fs (cs.take fo ++ ps ++ cs.drop (fo + fz)) r else none
   | _, _ => none
def slotsP (i : Nat) : List (Nat × PV) → Option (List PV)
 | [] => some []
 | (j, p) :: r => if i = j then (match slotsP (i + 1) r with
   | some ps => some (p :: ps)
   | none => none) else none
def sizesB (sz : Nat) : List PV → Bool
 | [] => true
 | p :: ps => (match cellsP p with
   | some cs => decide (cs.length = sz)
   | none => false) && sizesB sz ps
def bound (ev : Operand → PV) (x : Option Operand) (d : Nat) : Option Int :=
 match x with
 | none => some d
 | some y => match ev y with
   | .imm (.int _ i) => some i
   | _ => none
def srcP (get : Nat → Option Blk) (sz : Nat) : PV → Option (List PV)
 | .imm .nil => some []
 | .imm (.sl sz' es) => if sz = sz' then some (es.map .imm) else none
 | .row r g => match get r with
   | some (.row _ sz' g' es) => if g = g' ∧ sz = sz' then some es else none
   | _ => none
 | .sub r g sz' q m => match get r with
   | some (.row _ sz2 g' es) => if g = g' ∧ sz = sz' ∧ sz = sz2 ∧ q + m ≤ es.length then some ((es.drop q).take m) else none
   | _ => none
 | _ => none
def joinP (p : PV) (cs : List PV) : PV :=
 match p with
 | .agg _ => norm (.agg cs)
 | .imm (.agg _) => norm (.agg cs)
 | _ => match cs with
   | [c] => c
   | _ => .any
def capsI : List PV → Option (List IV)
 | [] => some []
 | .iptr cs :: r => (capsI r).map fun is => .ip cs :: is
 | .imm (.str s) :: r => (capsI r).map fun is => .str s :: is
 | .imm (.int k z) :: r => (capsI r).map fun is => .int k z :: is
 | .imm (.bool b) :: r => (capsI r).map fun is => .bool b :: is
 | .imm (.sl sz es) :: r => (capsI r).map fun is => .sl sz es :: is
 | .imm .nil :: r => (capsI r).map fun is => .nil :: is
 | .imm (.fn f) :: r => (capsI r).map fun is => .fn f :: is
 | _ => none
def toI : PV → Option IV
 | .imm i => some i
 | .clo f cs => (capsI cs).map fun is => .clo f is
 | _ => none
def ofC : IV → PV
 | .ip cs => .iptr cs
 | i => .imm i
def ckOf (T : TypeId → Option (List CK)) (t : TypeId) : TD → Option MK
 | ⟨_, _, _, .int k⟩ => some (.int k)
 | ⟨_, _, _, .str⟩ => some .str
 | ⟨_, _, _, .bool⟩ => some .bool
 | ⟨_, _, _, .struct _⟩ => (T t).map (.cells t)
 | _ => none
def zeroI (d : TD) : IV := if d.agg then .agg d.zero else d.zero.headD .nil
def lookO (ok : Bool) (z : IV) (x : Option IV) : PV := if ok then .tup [.imm (x.getD z), .imm (.bool x.isSome)] else .imm (x.getD z)
def notRef (r : Nat) : PV → Bool
 | .row r' _ => decide (r ≠ r')
 | .sub r' _ _ _ _ => decide (r ≠ r')
 | _ => true
def u8B (d : TD) : Bool := !d.agg && (match d.kind with
 | .int .u8 => true
 | _ => false) && (match d.zero with
 | [.int .u8 z] => decide (z = 0)
 | _ => false)
def strP (b : ByteArray) : List PV := (b.data.toList.map fun c => IV.int .u8 (c.toNat : Int)).map .imm
def appS (P : Program) (id : Nat) (get : Nat → Option Blk) (e : TypeId) (sz bytes : Nat) (ts : Array TypeId) (s x : PV) : Option Out :=
 match tdOf P e, tdOf P (ts.getD 1 0), x with
 | some d, some ⟨_, _, _, .str⟩, .imm (.str b) => if u8B d = true ∧ sz = 1 ∧ bytes = 1 ∧ ts.size = 2 then (match s with
   | .imm .nil => match get id with
     | some (.dead g) => if b.size ≤ most then some ⟨.row id (g + 1), [(id, .row e 1 (g + 1) (strP b))], none⟩ else none
     | _ => none
   | .row r g => match get r with
     | some (.row e' sz' g' es) => if g = g' ∧ e = e' ∧ sz' = 1 ∧ es.length + b.size ≤ most then some ⟨.row r (g + 1), [(r, .row e 1 (g + 1) (es ++ strP b))], none⟩ else none
     | _ => none
   | _ => none) else none
 | _, _, _ => none
def boxT (t : TypeId) (d : TD) : Option TypeId := match d.zero with
 | [.np, .nil] => some t
 | _ => none
def absOp (P : Program) (T : TypeId → Option (List CK)) (o : Oper) (id : Nat) (ev : Operand → PV) (get : Nat → Option Blk) (cr : List Orc) : Option Out :=
 match o.op with
 | .move x | .assign x => val (ev x)
 | .pick c a b => match ev c with
   | .imm (.bool t) => val (if t then ev a else ev b)
   | _ => none
 | .alloc t => match tdOf P t, get id with
   | some d, some (.dead g) => match arrOf d.kind with
     | some n => if n = d.zero.length ∧ 0 < n ∧ n ≤ most then some ⟨.eptr id (g + 1) 1 0 0, [(id, .row t 1 (g + 1) (d.zero.map .imm))], none⟩ else none
     | none => some ⟨.ptr id (g + 1) 0, [(id, .box (g + 1) (d.zero.map .imm) (boxT t d))], none⟩
   | _, _ => none
 | .box _ x => match cellsP (ev x), get id with
   | some cs, some (.dead g) => some ⟨.ptr id (g + 1) 0, [(id, .box (g + 1) cs)], none⟩
   | _, _ => none
 | .load t x => match tdOf P t, ev x with
   | some d, .ptr r g off => match get r with
     | some (.box g' cs _) => if g = g' then (partP cs off d.size d.agg).bind val else none
     | _ => none
   | some d, .eptr r g sz i off => match get r with
     | some (.row _ sz' g' es) => if g = g' ∧ sz = sz' then (match es[i]? with
       | some p => (match cellsP p with
         | some cs => (partP cs off d.size d.agg).bind val
         | none => none)
       | none => none) else none
     | _ => none
   | some d, .iptr cs => (partI cs 0 d.size d.agg).bind fun i => val (.imm i)
   | _, _ => none
 | .store t x y => match tdOf P t, ev x, cellsP (ev y) with
   | some d, .ptr r g off, some ys => match get r with
     | some (.box g' cs t') => if g = g' ∧ ys.length = d.size ∧ off + d.size ≤ cs.length then some ⟨.any, [(r, .box g (cs.take off ++ ys ++ cs.drop (off + d.size)) t')], none⟩ else none
     | _ => none
   | some d, .eptr r g sz i off, some ys => match get r with
     | some (.row e sz' g' es) => if g = g' ∧ sz = sz' ∧ ys.length = d.size then (match es[i]? with
       | some p => (match cellsP p with
         | some cs => if off + d.size ≤ cs.length then some ⟨.any, [(r, .row e sz g (es.set i (joinP p (cs.take off ++ ys ++ cs.drop (off + d.size)))))], none⟩ else none
         | none => none)
       | none => none) else none
     | _ => none
   | _, _, _ => none
 | .nilCheck x => match ev x with
   | .ptr r g off => match get r with
     | some (.box g' _ _) => if g = g' then val (.ptr r g off) else none
     | _ => none
   | .iptr cs => val (.iptr cs)
   | .clo f cs => val (.clo f cs)
   | .imm (.fn f) => val (.imm (.fn f))
   | .imm (.clo f cs) => val (.imm (.clo f cs))
   | _ => none
 | .binOp op t x y _ => match ev x, ev y, T t with
   | .imm (.agg is), .imm (.agg js), some ks => if shapeB is ks ∧ shapeB js ks then (match op with
     | .eql => val (.imm (.bool (eqC is js)))
     | .neq => val (.imm (.bool (!eqC is js)))
     | _ => none) else none
   | .imm (.bool a), .imm (.bool b), _ => (match tdOf P t with
     | some ⟨_, _, _, .bool⟩ => (match op with
       | .eql => val (.imm (.bool (a == b)))
       | .neq => val (.imm (.bool (!(a == b))))
       | _ => none)
     | _ => none)
   | .ptr r g _, .imm .np, _ => (match tdOf P t, get r with
     | some ⟨_, _, _, .ptr _⟩, some (.box g' _ _) => if g = g' then (match op with
       | .eql => val (.imm (.bool false))
       | .neq => val (.imm (.bool true))
       | _ => none) else none
     | _, _ => none)
   | .imm .np, .imm .np, _ => (match tdOf P t with
     | some ⟨_, _, _, .ptr _⟩ => (match op with
       | .eql => val (.imm (.bool true))
       | .neq => val (.imm (.bool false))
       | _ => none)
     | _ => none)
   | .clo _ _, .imm .nf, _ => (match tdOf P t with
     | some ⟨_, _, _, .fn⟩ => (match op with
       | .eql => val (.imm (.bool false))
       | .neq => val (.imm (.bool true))
       | _ => none)
     | _ => none)
   | .imm (.fn _), .imm .nf, _ => (match tdOf P t with
     | some ⟨_, _, _, .fn⟩ => (match op with
       | .eql => val (.imm (.bool false))
       | .neq => val (.imm (.bool true))
       | _ => none)
     | _ => none)
   | .imm .nf, .imm .nf, _ => (match tdOf P t with
     | some ⟨_, _, _, .fn⟩ => (match op with
       | .eql => val (.imm (.bool true))
       | .neq => val (.imm (.bool false))
       | _ => none)
     | _ => none)
   | .imm .nil, .imm .nil, _ => (match tdOf P t with
     | some ⟨_, _, _, .slice _ _ _⟩ => (match op with
       | .eql => val (.imm (.bool true))
       | .neq => val (.imm (.bool false))
       | _ => none)
     | _ => none)
   | .imm (.sl _ (_ :: _)), .imm .nil, _ => (match tdOf P t with
     | some ⟨_, _, _, .slice _ _ _⟩ => (match op with
       | .eql => val (.imm (.bool false))
       | .neq => val (.imm (.bool true))
       | _ => none)
     | _ => none)
   | .row r g, .imm .nil, _ => (match tdOf P t, get r with
     | some ⟨_, _, _, .slice _ _ _⟩, some (.row _ _ g' (_ :: _)) => if g = g' then (match op with
       | .eql => val (.imm (.bool false))
       | .neq => val (.imm (.bool true))
       | _ => none) else none
     | _, _ => none)
   | p, q, _ => (binP op p q).bind fun i => val (.imm i)
 | .unOp op _ x => match op, ev x with
   | .not, .imm (.bool b) => val (.imm (.bool (!b)))
   | .neg, .imm (.int k a) => val (.imm (.int k (k.wrap (0 - a))))
   | _, _ => none
 | .fieldAddr s x f => match tdOf P s, ev x with
   | some ⟨_, _, _, .struct fs⟩, .ptr r g off => match fs[f]? with
     | some (fo, fz, _) => match get r with
       | some (.box g' _ _) => if fz ≠ 0 ∧ g = g' then val (.ptr r g (off + fo)) else none
       | _ => none
     | none => none
   | some ⟨_, _, _, .struct fs⟩, .eptr r g sz i off => match fs[f]? with
     | some (fo, fz, _) => match get r with
       | some (.row _ _ g' _) => if fz ≠ 0 ∧ g = g' then val (.eptr r g sz i (off + fo)) else none
       | _ => none
     | none => none
   | some ⟨_, _, _, .struct fs⟩, .iptr cs => match fs[f]? with
     | some (fo, fz, _) => if fz = 0 then none else val (.iptr (cs.drop fo))
     | none => none
   | _, _ => none
 | .field t x f => match tdOf P t, ev x with
   | some ⟨_, _, _, .struct fs⟩, .imm (.agg cs) => match fs[f]? with
     | some (fo, fz, fa) => (partI cs fo fz fa).bind fun i => val (.imm i)
     | none => none
   | some ⟨_, _, _, .struct fs⟩, .agg ps => match fs[f]? with
     | some (fo, _, false) => (ps[fo]?).bind val
     | _ => none
   | _, _ => none
 | .indexAddr t x ix => match tdOf P t, ev x, ev ix with
   | some ⟨_, _, _, .slice _ sz _⟩, .imm (.sl sz' es), .imm (.int _ i) => if sz = sz' ∧ 0 ≤ i then (es[i.toNat]?).bind fun e => val (.iptr (cellsI e)) else none
   | some ⟨_, _, _, .slice _ sz _⟩, .row r g, .imm (.int _ i) => match get r with
     | some (.row _ sz' g' es) => if g = g' ∧ sz = sz' ∧ 0 ≤ i ∧ i.toNat < es.length then val (.eptr r g sz i.toNat 0) else none
     | _ => none
   | some ⟨_, _, _, .slice _ sz _⟩, .sub r g sz' q m, .imm (.int _ i) => match get r with
     | some (.row _ sz2 g' _) => if g = g' ∧ sz = sz' ∧ sz = sz2 ∧ 0 ≤ i ∧ i.toNat < m then val (.eptr r g sz (q + i.toNat) 0) else none
     | _ => none
   | some ⟨_, _, _, .arr n _ sz⟩, .eptr r g sz' i0 o, .imm (.int _ i) => match get r with
     | some (.row _ sz2 g' es) => if g = g' ∧ sz = sz' ∧ sz = sz2 ∧ i0 = 0 ∧ o = 0 ∧ n = es.length ∧ 0 ≤ i ∧ i.toNat < es.length then val (.eptr r g sz i.toNat 0) else none
     | _ => none
   | some ⟨_, _, _, .arr n _ sz⟩, .iptr cs, .imm (.int _ i) => if 0 ≤ i ∧ i.toNat < n then val (.iptr (cs.drop (i.toNat * sz))) else none
   | _, _, _ => none
 | .index t x ix => match tdOf P t, ev x, ev ix with
   | some ⟨_, _, _, .str⟩, .imm (.str s), .imm (.int _ i) => if 0 ≤ i then (s.data[i.toNat]?).bind fun b => val (.imm (.int .u8 b.toNat)) else none
   | _, _, _ => none
 | .build t parts => match tdOf P t with
   | some ⟨_, _, zs, .struct fs⟩ => (fillP fs (zs.map .imm) (parts.toList.map fun x => (x.1, ev x.2))).bind fun cs => val (norm (.agg cs))
   | _ => none
 | .buildSlice t n parts => match tdOf P t, get id, slotsP 0 (parts.toList.map fun x => (x.1, ev x.2)) with
   | some ⟨_, _, _, .slice e sz _⟩, some (.dead g), some ps => if n = ps.length ∧ (tdOf P e).isSome = true ∧ 0 < sz ∧ n * sz ≤ 16000000 ∧ sizesB sz ps then some ⟨.row id (g + 1), [(id, .row e sz (g + 1) ps)], none⟩ else none
   | _, _, _ => none
 | .slice t x lo hi none => match tdOf P t, ev x, bound ev lo 0 with
   | some ⟨_, _, _, .str⟩, .imm (.str s), some l => match bound ev hi s.size with
     | some h => if 0 ≤ l ∧ l ≤ h ∧ h ≤ s.size then val (.imm (.str (s.extract l.toNat h.toNat))) else none
     | none => none
   | some ⟨_, _, _, .slice _ sz _⟩, .imm (.sl sz' es), some l => match bound ev hi es.length with
     | some h => if sz = sz' ∧ 0 ≤ l ∧ l ≤ h ∧ h ≤ es.length then val (.imm (.sl sz ((es.drop l.toNat).take (h.toNat - l.toNat)))) else none
     | none => none
   | some ⟨_, _, _, .slice _ sz _⟩, .row r g, some l => match get r with
     | some (.row e sz' g' es) => (match lo with
       | some _ => (match bound ev hi es.length with
         | some h => if g = g' ∧ sz = sz' ∧ 0 ≤ l ∧ l ≤ h ∧ h ≤ es.length then val (.sub r g sz l.toNat (h.toNat - l.toNat)) else none
         | none => none)
       | none => (match bound ev hi es.length with
         | some h => if g = g' ∧ sz = sz' ∧ l = 0 ∧ 0 ≤ h ∧ h ≤ es.length then some ⟨.row r (g + 1), [(r, .row e sz (g + 1) (es.take h.toNat))], none⟩ else none
         | none => none))
     | _ => none
   | some ⟨_, _, _, .slice _ sz _⟩, .sub r g sz' q m, some l => match get r with
     | some (.row _ sz2 g' _) => (match bound ev hi (m : Nat) with
       | some h => if g = g' ∧ sz = sz' ∧ sz = sz2 ∧ 0 ≤ l ∧ l ≤ h ∧ h ≤ m then val (.sub r g sz (q + l.toNat) (h.toNat - l.toNat)) else none
       | none => none)
     | _ => none
   | some ⟨_, _, _, .arr n _ sz⟩, .eptr r g sz' i0 o, some l => match get r with
     | some (.row _ sz2 g' es) => (match hi with
       | none => if g = g' ∧ sz = sz' ∧ sz = sz2 ∧ i0 = 0 ∧ o = 0 ∧ n = es.length ∧ 0 ≤ l ∧ l ≤ es.length then val (.sub r g sz l.toNat (es.length - l.toNat)) else none
       | some _ => none)
     | _ => none
   | _, _, _ => none
 | .slice t x lo (some y) (some mx) => match tdOf P t, ev x, bound ev lo 0, ev y, ev mx with
   | some ⟨_, _, _, .slice _ sz _⟩, .imm (.sl sz' es), some l, .imm (.int _ h), .imm (.int _ m) => if sz = sz' ∧ 0 ≤ l ∧ l ≤ h ∧ h = m ∧ m ≤ es.length then val (.ful sz ((es.drop l.toNat).take (h.toNat - l.toNat))) else none
   | _, _, _, _, _ => none
 | .call ⟨.builtin .append, args, ts⟩ => match tdOf P (ts.getD 0 0), args.toList.map ev with
   | some ⟨_, _, _, .slice e sz bytes⟩, [s, x] => if (tdOf P e).isSome = true ∧ 0 < sz ∧ bytes ≤ 100000 ∧ ts.size = 2 ∧ ts.getD 1 0 = ts.getD 0 0 then (match srcP get sz x with
     | some xs => match s with
       | .imm .nil => match get id with
         | some (.dead g) => if xs.length ≤ most then some ⟨.row id (g + 1), [(id, .row e sz (g + 1) xs)], none⟩ else none
         | _ => none
       | .row r g => match get r with
         | some (.row e' sz' g' es) => if g = g' ∧ e = e' ∧ sz = sz' ∧ Room bytes (es.length + xs.length) ∧ notRef r x then some ⟨.row r (g + 1), [(r, .row e sz (g + 1) (es ++ xs))], none⟩ else none
         | _ => none
       | .ful sz' es => match get id with
         | some (.dead g) => if sz = sz' ∧ es.length + xs.length ≤ most then (if xs.length = 0 then val (.imm (.sl sz es)) else some ⟨.row id (g + 1), [(id, .row e sz (g + 1) (es.map .imm ++ xs))], none⟩) else none
         | _ => none
       | _ => none
     | none => none) else appS P id get e sz bytes ts s x
   | _, _ => none
 | .call ⟨.builtin .copy, args, ts⟩ => match tdOf P (ts.getD 0 0), args.toList.map ev with
   | some ⟨_, _, _, .slice e sz _⟩, [.row r g, x] => match get r, srcP get sz x with
     | some (.row e' sz' g' es), some xs => if g = g' ∧ e = e' ∧ sz = sz' ∧ 0 < sz ∧ ts.size = 2 ∧ xs.length ≤ most ∧ es.length ≤ most then some ⟨.imm (.int .i64 (min xs.length es.length : Nat)), [(r, .row e sz g (xs.take es.length ++ es.drop xs.length))], none⟩ else none
     | _, _ => none
   | some ⟨_, _, _, .slice e sz _⟩, [.sub r g sz2 q m, x] => match get r, srcP get sz x with
     | some (.row e' sz' g' es), some xs => if g = g' ∧ e = e' ∧ sz = sz' ∧ sz = sz2 ∧ 0 < sz ∧ ts.size = 2 ∧ xs.length ≤ m ∧ m ≤ most then some ⟨.imm (.int .i64 xs.length), [(r, .row e sz g (es.take q ++ xs ++ es.drop (q + xs.length)))], none⟩ else none
     | _, _ => none
   | _, _ => none
 | .extract x i => match ev x with
   | .tup cs => (cs[i]?).bind val
   | _ => none
 | .makeSlice t l c => match tdOf P t, get id, ev l, ev c with
   | some ⟨_, _, _, .slice e sz bytes⟩, some (.dead g), .imm (.int _ z), .imm (.int _ y) => match tdOf P e with
     | some d => if 0 < sz ∧ bytes ≤ 100000 ∧ 0 ≤ z ∧ z ≤ y ∧ y ≤ (most : Int) then some ⟨.row id (g + 1), [(id, .row e sz (g + 1) (List.replicate z.toNat (.imm (zeroI d))))], none⟩ else none
     | none => none
   | _, _, _, _ => none
 | .makeMap t none => match tdOf P t, get id with
   | some ⟨_, _, _, .map k _⟩, some (.dead g) => match (tdOf P k).bind (ckOf T k) with
     | some kk => some ⟨.row id (g + 1), [(id, .map kk (g + 1) [])], none⟩
     | none => none
   | _, _ => none
 | .lookup t m x ok => match tdOf P t, ev m, ev x with
   | some ⟨_, _, _, .map k e⟩, .row r g, .imm a => match get r, (tdOf P k).bind (ckOf T k), tdOf P e with
     | some (.map kk' g' ps), some kk, some d => if g = g' ∧ kk = kk' ∧ keyB kk a = true then val (lookO ok (zeroI d) (lookM ps a)) else none
     | _, _, _ => none
   | some ⟨_, _, _, .map k e⟩, .imm .nm, .imm a => match (tdOf P k).bind (ckOf T k), tdOf P e with
     | some kk, some d => if keyB kk a = true then val (lookO ok (zeroI d) none) else none
     | _, _ => none
   | _, _, _ => none
 | .mapUpdate t m x y | .insert t m x y => match tdOf P t, ev m, ev x, toI (ev y) with
   | some ⟨_, _, _, .map k _⟩, .row r g, .imm a, some b => match get r, (tdOf P k).bind (ckOf T k) with
     | some (.map kk' g' ps), some kk => if g = g' ∧ kk = kk' ∧ keyB kk a = true then some ⟨.any, [(r, .map kk g (putM ps a b))], none⟩ else none
     | _, _ => none
   | _, _, _, _ => none
 | .range t x => match tdOf P t, ev x, get id with
   | some ⟨_, _, _, .map _ _⟩, .row r g, some (.dead gd) => match get r with
     | some (.map kk g' ps) => if g = g' ∧ isIter kk = false ∧ r ≠ id then some ⟨.ptr id (gd + 1) 0, [(r, .dead g), (id, .map (.iter false) (gd + 1) ps)], none⟩ else none
     | _ => none
   | _, _, _ => none
 | .entry x => match ev x with
   | .ptr r g 0 => match get r with
     | some (.map (.iter true) g' ((a, b) :: _)) => if g = g' then val (.tup [.imm a, .imm b]) else none
     | _ => none
   | _ => none
 | .call ⟨.builtin .delete, args, ts⟩ => match tdOf P (ts.getD 0 0), args.toList.map ev with
   | some ⟨_, _, _, .map k _⟩, [.row r g, .imm a] => match get r, (tdOf P k).bind (ckOf T k) with
     | some (.map kk' g' ps), some kk => if g = g' ∧ kk = kk' ∧ keyB kk a = true ∧ ts.size = 2 ∧ ts.getD 1 0 = k then some ⟨.any, [(r, .map kk g (delM ps a))], none⟩ else none
     | _, _ => none
   | _, _ => none
 | .call ⟨.builtin .clear, args, ts⟩ => match tdOf P (ts.getD 0 0), args.toList.map ev with
   | some ⟨_, _, _, .slice e sz _⟩, [.sub r g sz2 q m] => match get r, tdOf P e with
     | some (.row e' sz' g' es), some d => if g = g' ∧ e = e' ∧ sz = sz' ∧ sz = sz2 ∧ 0 < sz ∧ ts.size = 1 then some ⟨.any, [(r, .row e sz g (es.take q ++ List.replicate m (.imm (zeroI d)) ++ es.drop (q + m)))], none⟩ else none
     | _, _ => none
   | _, _ => none
 | .call ⟨.builtin .unsafeSliceData, args, _⟩ => match args.toList.map ev with
   | [.row r g] => match get r with
     | some (.row _ sz g' es) => if g = g' ∧ sz = 1 ∧ 0 < es.length then val (.eptr r g 1 0 0) else none
     | _ => none
   | _ => none
 | .call ⟨.builtin .unsafeString, args, ts⟩ => match tdOf P (ts.getD 0 0), args.toList.map ev with
   | some ⟨_, _, _, .ptr e⟩, [.eptr r g sz i oo, .imm (.int .i64 n)] => match get r, tdOf P e with
     | some (.row e' sz' g' es), some d => if (g = g' ∧ e = e' ∧ sz = 1 ∧ sz' = 1 ∧ i = 0 ∧ oo = 0 ∧ d.size = 1 ∧ ts.size = 2) ∧ n = es.length ∧ 0 < es.length then (bytesP es).bind fun bs => some ⟨.imm (.str ⟨bs.toArray⟩), [(r, .dead (g + 1))], none⟩ else none
     | _, _ => none
   | _, _ => none
 | .makeFunc (.func f) first caps => if first.size = 0 then val (if caps.size = 0 then .imm (.fn f) else .clo f (caps.toList.map ev)) else none
 | .convert s t x => match tdOf P s, tdOf P t, ev x with
   | some ⟨_, _, _, .int _⟩, some ⟨_, _, _, .int k⟩, .imm (.int _ z) => val (.imm (.int k (k.wrap z)))
   | some ⟨_, _, _, .str⟩, some ⟨_, _, _, .str⟩, .imm (.str z) => val (.imm (.str z))
   | some ⟨_, _, _, .slice e 1 _⟩, some ⟨_, _, _, .str⟩, .row r g => match tdOf P e, get r with
     | some ⟨_, _, _, .int .u8⟩, some (.row _ 1 g' es) => if g = g' then (bytesP es).bind fun bs => val (.imm (.str ⟨bs.toArray⟩)) else none
     | _, _ => none
   | some ⟨_, _, _, .slice e 1 _⟩, some ⟨_, _, _, .str⟩, .imm (.sl 1 es) => match tdOf P e with
     | some ⟨_, _, _, .int .u8⟩ => (bytesP (es.map .imm)).bind fun bs => val (.imm (.str ⟨bs.toArray⟩))
     | _ => none
   | some ⟨_, _, _, .slice e 1 _⟩, some ⟨_, _, _, .str⟩, .sub r g 1 q m => match tdOf P e, get r with
     | some ⟨_, _, _, .int .u8⟩, some (.row _ 1 g' es) => if g = g' then (bytesP ((es.drop q).take m)).bind fun bs => val (.imm (.str ⟨bs.toArray⟩)) else none
     | _, _ => none
   | _, _, _ => none
 | .call ⟨.builtin .len, args, ts⟩ => match tdOf P (ts.getD 0 0), args.toList.map ev with
   | some ⟨_, _, _, .slice _ _ _⟩, [.imm .nil] => if ts.size = 1 then val (.imm (.int .i64 0)) else none
   | some ⟨_, _, _, .slice _ _ _⟩, [.imm (.sl _ es)] => if ts.size = 1 then val (.imm (.int .i64 es.length)) else none
   | some ⟨_, _, _, .str⟩, [.imm (.str s)] => if ts.size = 1 then val (.imm (.int .i64 s.size)) else none
   | some ⟨_, _, _, .slice _ _ _⟩, [.row r g] => match get r with
     | some (.row _ _ g' es) => if ts.size = 1 ∧ g = g' then val (.imm (.int .i64 es.length)) else none
     | _ => none
   | some ⟨_, _, _, .slice _ _ _⟩, [.sub r g _ _ m] => match get r with
     | some (.row _ _ g' _) => if ts.size = 1 ∧ g = g' then val (.imm (.int .i64 m)) else none
     | _ => none
   | some ⟨_, _, _, .map _ _⟩, [.row r g] => match get r with
     | some (.map kk g' ps) => if ts.size = 1 ∧ g = g' ∧ isIter kk = false then val (.imm (.int .i64 ps.length)) else none
     | _ => none
   | _, _ => none
 | .call ⟨.builtin .max, args, _⟩ => match args.toList.map ev with
   | [.imm (.int k a), .imm (.int _ b)] => val (.imm (.int k (if b > a then b else a)))
   | _ => none
 | .call ⟨.builtin .min, args, _⟩ => match args.toList.map ev with
   | [.imm (.int k a), .imm (.int _ b)] => val (.imm (.int k (if b < a then b else a)))
   | _ => none
 | .call ⟨.value f, args, _⟩ => match ev f, cr with
   | .imm (.fn f), c :: _ => some ⟨c.res, c.ws, some ⟨f, args.toList.map ev, c.reads.filterMap fun r => (get r).map fun b => (r, b), c.res, c.ws⟩⟩
   | .imm (.clo f cs), c :: _ => some ⟨c.res, c.ws, some ⟨f, args.toList.map ev ++ cs.map ofC, c.reads.filterMap fun r => (get r).map fun b => (r, b), c.res, c.ws⟩⟩
   | .clo f cs, c :: _ => some ⟨c.res, c.ws, some ⟨f, args.toList.map ev ++ cs, c.reads.filterMap fun r => (get r).map fun b => (r, b), c.res, c.ws⟩⟩
   | _, _ => none
 | _ => none
end Go.Pv
namespace Go.Pv
open Go.RowKit (Below)
theorem RepT_len {k : K} {n : Nat} {w : World} : ∀ {E : List PV} {vs : List Value}, RepT k n w E vs → E.length = vs.length
 | [], vs, h => by unfold RepT at h; subst h; rfl
 | c :: cs, vs, h => by
   unfold RepT at h
   obtain ⟨v, r, e, _, h2⟩ := h
   rw [e, List.length_cons, List.length_cons, RepT_len h2]
theorem RepL_len {k : K} {n : Nat} {w : World} : ∀ {E : List PV} {vs : List Value}, RepL k n w E vs → E.length = vs.length
 | [], vs, h => by unfold RepL at h; subst h; rfl
 | c :: cs, vs, h => by
   unfold RepL at h
   obtain ⟨v, r, e, _, _, h2⟩ := h
   rw [e, List.length_cons, List.length_cons, RepL_len h2]
theorem RepC_len {Q : Nat → Prop} {w : World} : ∀ {E : List IV} {vs : List Value}, RepC Q w E vs → E.length = vs.length
 | [], vs, h => by unfold RepC at h; subst h; rfl
 | c :: cs, vs, h => by
   unfold RepC at h
   obtain ⟨v, r, e, _, _, h2⟩ := h
   rw [e, List.length_cons, List.length_cons, RepC_len h2]
theorem RepT_get {k : K} {n : Nat} {w : World} : ∀ {E : List PV} {vs : List Value} (_ : RepT k n w E vs) (t : Nat) (d : Value), Rep k n w (E.getD t .any) (vs.getD t d)
 | [], vs, h, t, d => by simpa using Rep_any k n w _
 | c :: cs, vs, h, t, d => by
   unfold RepT at h
   obtain ⟨v, r, e, h1, h2⟩ := h
   subst e
   cases t with
   | zero => simpa using h1
   | succ t => simpa using RepT_get h2 t d
theorem RepT_at {k : K} {n : Nat} {w : World} : ∀ {E : List PV} {vs : List Value} (_ : RepT k n w E vs) (t : Nat) (p : PV), E[t]? = some p → ∃ v, vs[t]? = some v ∧ Rep k n w p v
 | [], vs, h, t, p, e => by simp at e
 | c :: cs, vs, h, t, p, e => by
   unfold RepT at h
   obtain ⟨v, r, ee, h1, h2⟩ := h
   subst ee
   cases t with
   | zero => simp only [List.getElem?_cons_zero, Option.some.injEq] at e; subst e; exact ⟨v, rfl, h1⟩
   | succ t => simpa using RepT_at h2 t p (by simpa using e)
theorem RepL_at {k : K} {n : Nat} {w : World} : ∀ {E : List PV} {vs : List Value} (_ : RepL k n w E vs) (t : Nat) (p : PV), E[t]? = some p → ∃ v, vs[t]? = some v ∧ one v ∧ Rep k n w p v
 | [], vs, h, t, p, e => by simp at e
 | c :: cs, vs, h, t, p, e => by
   unfold RepL at h
   obtain ⟨v, r, ee, h0, h1, h2⟩ := h
   subst ee
   cases t with
   | zero => simp only [List.getElem?_cons_zero, Option.some.injEq] at e; subst e; exact ⟨v, rfl, h0, h1⟩
   | succ t => simpa using RepL_at h2 t p (by simpa using e)
theorem RepC_at {Q : Nat → Prop} {w : World} : ∀ {E : List IV} {vs : List Value} (_ : RepC Q w E vs) (t : Nat) (p : IV), E[t]? = some p → ∃ v, vs[t]? = some v ∧ one v ∧ RepI Q w p v
 | [], vs, h, t, p, e => by simp at e
 | c :: cs, vs, h, t, p, e => by
   unfold RepC at h
   obtain ⟨v, r, ee, h0, h1, h2⟩ := h
   subst ee
   cases t with
   | zero => simp only [List.getElem?_cons_zero, Option.some.injEq] at e; subst e; exact ⟨v, rfl, h0, h1⟩
   | succ t => simpa using RepC_at h2 t p (by simpa using e)
theorem RepL_drop {k : K} {n : Nat} {w : World} : ∀ {E : List PV} {vs : List Value} (_ : RepL k n w E vs) (t : Nat), RepL k n w (E.drop t) (vs.drop t)
 | [], vs, h, t => by unfold RepL at h; subst h; simp [RepL]
 | c :: cs, vs, h, t => by
   cases t with
   | zero => simpa using h
   | succ t =>
     unfold RepL at h
     obtain ⟨v, r, ee, h0, h1, h2⟩ := h
     subst ee
     simpa using RepL_drop h2 t
theorem RepL_take {k : K} {n : Nat} {w : World} : ∀ {E : List PV} {vs : List Value} (_ : RepL k n w E vs) (t : Nat), RepL k n w (E.take t) (vs.take t)
 | [], vs, h, t => by unfold RepL at h; subst h; simp [RepL]
 | c :: cs, vs, h, t => by
   unfold RepL at h
   obtain ⟨v, r, ee, h0, h1, h2⟩ := h
   subst ee
   cases t with
   | zero => simp [RepL]
   | succ t => simp only [List.take_succ_cons]; unfold RepL; exact ⟨v, _, rfl, h0, h1, RepL_take h2 t⟩
theorem RepL_app {k : K} {n : Nat} {w : World} : ∀ {E E' : List PV} {vs vs' : List Value}, RepL k n w E vs → RepL k n w E' vs' → RepL k n w (E ++ E') (vs ++ vs')
 | [], _, vs, _, h, h' => by unfold RepL at h; subst h; simpa using h'
 | c :: cs, _, vs, _, h, h' => by
   unfold RepL at h
   obtain ⟨v, r, ee, h0, h1, h2⟩ := h
   subst ee
   simp only [List.cons_append]
   unfold RepL
   exact ⟨v, _, rfl, h0, h1, RepL_app h2 h'⟩
theorem RepT_app {k : K} {n : Nat} {w : World} : ∀ {E E' : List PV} {vs vs' : List Value}, RepT k n w E vs → RepT k n w E' vs' → RepT k n w (E ++ E') (vs ++ vs')
 | [], _, vs, _, h, h' => by unfold RepT at h; subst h; simpa using h'
 | c :: cs, _, vs, _, h, h' => by
   unfold RepT at h
   obtain ⟨v, r, ee, h1, h2⟩ := h
   subst ee
   simp only [List.cons_append]
   unfold RepT
   exact ⟨v, _, rfl, h1, RepT_app h2 h'⟩
theorem RepC_drop {Q : Nat → Prop} {w : World} : ∀ {E : List IV} {vs : List Value} (_ : RepC Q w E vs) (t : Nat), RepC Q w (E.drop t) (vs.drop t)
 | [], vs, h, t => by unfold RepC at h; subst h; simp [RepC]
 | c :: cs, vs, h, t => by
   cases t with
   | zero => simpa using h
   | succ t =>
     unfold RepC at h
     obtain ⟨v, r, ee, h0, h1, h2⟩ := h
     subst ee
     simpa using RepC_drop h2 t
theorem RepC_take {Q : Nat → Prop} {w : World} : ∀ {E : List IV} {vs : List Value} (_ : RepC Q w E vs) (t : Nat), RepC Q w (E.take t) (vs.take t)
 | [], vs, h, t => by unfold RepC at h; subst h; simp [RepC]
 | c :: cs, vs, h, t => by
   unfold RepC at h
   obtain ⟨v, r, ee, h0, h1, h2⟩ := h
   subst ee
   cases t with
   | zero => simp [RepC]
   | succ t => simp only [List.take_succ_cons]; unfold RepC; exact ⟨v, _, rfl, h0, h1, RepC_take h2 t⟩
theorem RepL_imm {k : K} {n : Nat} {w : World} : ∀ {cs : List IV} {vs : List Value}, RepC k.Q w cs vs → RepL k n w (cs.map .imm) vs
 | [], vs, h => by unfold RepC at h; subst h; simp [RepL]
 | c :: cs, vs, h => by
   unfold RepC at h
   obtain ⟨v, r, ee, h0, h1, h2⟩ := h
   simp only [List.map_cons]
   unfold RepL
   exact ⟨v, r, ee, h0, by unfold Rep; exact h1, RepL_imm h2⟩
theorem RepC_of_imms {k : K} {n : Nat} {w : World} : ∀ {cs : List PV} {is : List IV} {vs : List Value}, imms cs = some is → RepL k n w cs vs → RepC k.Q w is vs
 | [], is, vs, h, hr => by
   simp only [imms, Option.some.injEq] at h
   subst h
   unfold RepL at hr
   simp [RepC, hr]
 | .imm i :: cs, is, vs, h, hr => by
   unfold imms at h
   split at h
   · rename_i js hj
     simp only [Option.some.injEq] at h
     subst h
     unfold RepL at hr
     obtain ⟨v, r, ee, h0, h1, h2⟩ := hr
     unfold RepC
     exact ⟨v, r, ee, h0, by unfold Rep at h1; exact h1, RepC_of_imms hj h2⟩
   · cases h
 | .any :: cs, is, vs, h, _ => by cases h
 | .agg _ :: cs, is, vs, h, _ => by cases h
 | .tup _ :: cs, is, vs, h, _ => by cases h
 | .ptr _ _ _ :: cs, is, vs, h, _ => by cases h
 | .row _ _ :: cs, is, vs, h, _ => by cases h
 | .eptr _ _ _ _ _ :: cs, is, vs, h, _ => by cases h
 | .sub _ _ _ _ _ :: cs, is, vs, h, _ => by cases h
 | .iptr _ :: cs, is, vs, h, _ => by cases h
 | .ful _ _ :: cs, is, vs, h, _ => by cases h
 | .clo _ _ :: cs, is, vs, h, _ => by cases h
theorem Rep_norm {k : K} {n : Nat} {w : World} {p : PV} {v : Value} (h : Rep k n w p v) : Rep k n w (norm p) v := by
 cases p with
 | agg cs =>
   cases hi : imms cs with
   | some is =>
     have e : norm (.agg cs) = .imm (.agg is) := by simp [norm, hi]
     rw [e, Rep_imm, RepI_agg]
     obtain ⟨vs, e, hc⟩ := Rep_agg.1 h
     exact ⟨vs, e, RepC_of_imms hi hc⟩
   | none =>
     have e : norm (.agg cs) = .agg cs := by simp [norm, hi]
     rw [e]; exact h
 | _ => exact h
theorem Rep_cells {k : K} {n : Nat} {w : World} {p : PV} {v : Value} {cs : List PV} (h : Rep k n w p v) (hc : cellsP p = some cs) : RepL k n w cs v.cells.toList := by
 have single : ∀ v : Value, one v → Rep k n w p v → RepL k n w [p] v.cells.toList := by
   intro v hv hr
   have e : v.cells.toList = [v] := by cases v <;> first | rfl | (simp [one, Value.oneCell'] at hv)
   rw [e]
   unfold RepL
   exact ⟨v, [], rfl, hv, hr, by unfold RepL; rfl⟩
 cases p with
 | any => cases hc
 | tup _ => cases hc
 | agg ps =>
   simp only [cellsP, Option.some.injEq] at hc
   subst hc
   unfold Rep at h
   obtain ⟨vs, e, hl⟩ := h
   subst e
   exact hl
 | imm i =>
   simp only [cellsP, Option.some.injEq] at hc
   subst hc
   cases i with
   | agg is =>
     unfold Rep RepI at h
     obtain ⟨vs, e, hl⟩ := h
     subst e
     exact RepL_imm hl
   | bool b => exact single v (by unfold Rep RepI at h; subst h; rfl) h
   | int kk z => exact single v (by unfold Rep RepI at h; subst h; rfl) h
   | str s => exact single v (by unfold Rep RepI at h; subst h; rfl) h
   | fn f => exact single v (by unfold Rep RepI at h; subst h; rfl) h
   | nil => exact single v (by unfold Rep RepI at h; subst h; rfl) h
   | np => exact single v (by unfold Rep RepI at h; subst h; rfl) h
   | nm => exact single v (by unfold Rep RepI at h; subst h; rfl) h
   | nf => exact single v (by unfold Rep RepI at h; subst h; rfl) h
   | sl sz es => exact single v (by unfold Rep RepI at h; obtain ⟨a, c, e, _⟩ := h; subst e; rfl) h
   | clo f cs => exact single v (by unfold Rep RepI at h; obtain ⟨vs, e, _⟩ := h; subst e; rfl) h
   | ip cs => exact single v (by unfold Rep RepI at h; obtain ⟨b, off, vs, e, _⟩ := h; subst e; rfl) h
 | ptr r g o =>
   simp only [cellsP, Option.some.injEq] at hc
   subst hc
   exact single v (by unfold Rep at h; exact h.1) h
 | row r g =>
   simp only [cellsP, Option.some.injEq] at hc
   subst hc
   exact single v (by unfold Rep at h; exact h.1) h
 | eptr r g sz i o =>
   simp only [cellsP, Option.some.injEq] at hc
   subst hc
   exact single v (by unfold Rep at h; exact h.1) h
 | sub r g sz q m =>
   simp only [cellsP, Option.some.injEq] at hc
   subst hc
   exact single v (by unfold Rep at h; exact h.1) h
 | iptr cs =>
   simp only [cellsP, Option.some.injEq] at hc
   subst hc
   exact single v (by unfold Rep at h; obtain ⟨b, off, vs, e, _⟩ := h; subst e; rfl) h
 | ful sz es =>
   simp only [cellsP, Option.some.injEq] at hc
   subst hc
   exact single v (by unfold Rep at h; obtain ⟨_, a, e⟩ := h; subst e; rfl) h
 | clo f cs =>
   simp only [cellsP, Option.some.injEq] at hc
   subst hc
   exact single v (by unfold Rep at h; obtain ⟨vs, e, _⟩ := h; subst e; rfl) h
theorem RepE_mono {k k' : K} {n n' : Nat} {w w' : World} {sz : Nat} (h : Ext k n w k' n' w') : ∀ (es : List PV) (xs : List Value), RepE k n w sz es xs → RepE k' n' w' sz es xs
 | [], _, hr => by unfold RepE at hr ⊢; exact hr
 | e :: es, xs, hr => by
   unfold RepE at hr ⊢
   obtain ⟨v, r, h1, h2, h3, h4, h5⟩ := hr
   exact ⟨v, r, h1, h2, h3, Rep_mono h e v h4, RepE_mono h es r h5⟩
theorem own_row {w w' : World} {N : Nat} {e : TypeId} {sz n : Nat} {v : Value} {xs : List Value} (h : w.ownsRow N e sz v n xs) (hb : ∀ b, base v = some b → w'.heap[b]? = w.heap[b]?) : w'.ownsRow N e sz v n xs := by
 obtain ⟨h1, h2⟩ := h
 refine ⟨h1, ?_⟩
 rcases h2 with h2 | ⟨g, cap, cur, hv, hg, hh, r⟩
 · exact Or.inl h2
 · exact Or.inr ⟨g, cap, cur, hv, hg, by rw [hb g (by rw [hv]; rfl)]; exact hh, r⟩
theorem blk_keep {Γ : Ctx} {k k' : K} {n : Nat} {w w' : World} {r : Nat} {x : Blk} (h : BlkRep Γ k n w r x) (he : Ext k n w k' n w') (hρ : k'.ρ r = k.ρ r) (hG : k'.G r = k.G r)
   (hb : ∀ b, own k r x = some b → w'.heap[b]? = w.heap[b]?) : BlkRep Γ k' n w' r x := by
 cases x with
 | dead g => exact hG.trans h
 | box g cs t =>
   obtain ⟨h1, b, c, ty, h2, h3, h4, h5⟩ := h
   exact ⟨hG.trans h1, b, c, ty, hρ.trans h2, h3, (hb b (by show base (k.ρ r) = _; rw [h2]; rfl)).trans h4, RepL_mono he cs _ h5⟩
 | row e sz g es =>
   obtain ⟨h1, xs, h2, h3⟩ := h
   exact ⟨hG.trans h1, xs, by rw [hρ]; exact own_row h2 (fun b hb' => hb b hb'), RepE_mono he es xs h3⟩
 | map kk g ps => exact ⟨hG.trans h.1, by rw [hρ]; exact h.2.mono he.q hb⟩
theorem own_eq {k k' : K} {r : Nat} {x : Blk} (hρ : k'.ρ r = k.ρ r) : own k' r x = own k r x := by
 cases x <;> simp [own, hρ]
def K.put (k : K) (id : Nat) (v : Value) (g : Nat) : K := ⟨fun r => if r = id then v else k.ρ r, fun r => if r = id then g else k.G r, k.Q⟩
theorem K.put_ρ (k : K) (id : Nat) (v : Value) (g : Nat) : (k.put id v g).ρ id = v := by simp [K.put]
theorem K.put_G (k : K) (id : Nat) (v : Value) (g : Nat) : (k.put id v g).G id = g := by simp [K.put]
theorem K.put_ρ' (k : K) {id r : Nat} (v : Value) (g : Nat) (h : r ≠ id) : (k.put id v g).ρ r = k.ρ r := by simp [K.put, h]
theorem K.put_G' (k : K) {id r : Nat} (v : Value) (g : Nat) (h : r ≠ id) : (k.put id v g).G r = k.G r := by simp [K.put, h]
theorem inv_put {Γ : Ctx} {k : K} {B : List Blk} {w w' : World} (h : Inv Γ k B w) {id : Nat} {x y : Blk} (hx : B[id]? = some x) {v : Value} {g : Nat}
   (hg : k.G id < g ∨ (k.G id = g ∧ v = k.ρ id)) (hbel : Below Γ.N w w') (hblk : ∀ b, b < w.heap.size → some b ≠ own k id x → w'.heap[b]? = w.heap[b]?)
   (hnew : ∀ b, base v = some b → (w.heap.size ≤ b ∨ own k id x = some b) ∧ b < w'.heap.size)
   (hy : Ext k B.length w (k.put id v g) B.length w' → BlkRep Γ (k.put id v g) B.length w' id y) :
   Ext k B.length w (k.put id v g) B.length w' ∧ Inv Γ (k.put id v g) (B.set id y) w' := by
 have hid : id < B.length := (List.getElem?_eq_some_iff.1 hx).1
 have hQ : ∀ b, k.Q b → some b ≠ own k id x := fun b hb e => (h.sep id x b hx e.symm).1 hb
 have he : Ext k B.length w (k.put id v g) B.length w' := by
   refine ⟨Nat.le_refl _, fun b hb => ⟨hb, hblk b (h.lt b hb) (hQ b hb)⟩, fun r hr => ?_⟩
   by_cases e : r = id
   · subst e
     rw [K.put_G, K.put_ρ]
     rcases hg with hg | ⟨hg, hv⟩
     · exact ⟨Nat.le_of_lt hg, fun e => absurd e (Nat.ne_of_gt hg)⟩
     · exact ⟨Nat.le_of_eq hg, fun _ => hv⟩
   · rw [K.put_G' k v g e, K.put_ρ' k v g e]
     exact ⟨Nat.le_refl _, fun _ => rfl⟩
 have hot : ∀ r z b, r ≠ id → B[r]? = some z → own k r z = some b → w'.heap[b]? = w.heap[b]? := fun r z b hr hz hb => by
   refine hblk b (h.sep r z b hz hb).2.2 (fun e => ?_)
   exact hr (h.inj r id z x b hz hx hb e.symm)
 have hset : ∀ r z, (B.set id y)[r]? = some z → (r = id ∧ z = y) ∨ (r ≠ id ∧ B[r]? = some z) := fun r z hz => by
   by_cases e : r = id
   · subst e
     rw [List.getElem?_set_self hid] at hz
     exact Or.inl ⟨rfl, (Option.some.inj hz).symm⟩
   · rw [List.getElem?_set_ne (Ne.symm e)] at hz
     exact Or.inr ⟨e, hz⟩
 have howny : ∀ b, own (k.put id v g) id y = some b → base v = some b := fun b hb => by
   cases y with
   | dead _ => cases hb
   | box _ _ _ => simpa [own, K.put_ρ] using hb
   | row _ _ _ _ => simpa [own, K.put_ρ] using hb
   | map _ _ _ => simpa [own, K.put_ρ] using hb
 refine ⟨he, ⟨h.below.trans hbel, fun b hb => Nat.lt_of_lt_of_le (h.lt b hb) hbel.size, Nat.le_trans h.le hbel.size, h.qs, h.rr.below hbel, fun gg cs hc => ?_, fun r z hz => ?_, fun r z b hz hb => ?_, fun r r' z z' b hz hz' hb hb' => ?_, ⟨fun b hb => ?_, by rw [List.length_set]; exact h.kp.ext.trans he⟩, fun r z b hz hb => ?_⟩⟩
 · rw [List.length_set]; exact Rep_mono he _ _ (h.gl gg cs hc)
 · rw [List.length_set]
   rcases hset r z hz with ⟨e1, e2⟩ | ⟨e1, e2⟩
   · rw [e1, e2]; exact hy he
   · exact blk_keep (h.blk r z e2) he (K.put_ρ' k v g e1) (K.put_G' k v g e1) (fun b hb => hot r z b e1 e2 hb)
 · rcases hset r z hz with ⟨e1, e2⟩ | ⟨e1, e2⟩
   · subst e1; subst e2
     obtain ⟨h1, h2⟩ := hnew b (howny b hb)
     rcases h1 with h1 | h1
     · exact ⟨fun hq => by have := h.lt b hq; omega, Nat.le_trans h.le h1, h2⟩
     · obtain ⟨g1, g2, _⟩ := h.sep r x b hx h1
       exact ⟨g1, g2, h2⟩
   · rw [own_eq (K.put_ρ' k v g e1)] at hb
     obtain ⟨g1, g2, g3⟩ := h.sep r z b e2 hb
     exact ⟨g1, g2, Nat.lt_of_lt_of_le g3 hbel.size⟩
 · have key : ∀ r z, r ≠ id → B[r]? = some z → own k r z = some b → base v = some b → False := fun r z hr hz hbz hbv => by
     obtain ⟨h1, _⟩ := hnew b hbv
     rcases h1 with h1 | h1
     · have := (h.sep r z b hz hbz).2.2; omega
     · exact hr (h.inj r id z x b hz hx hbz h1)
   rcases hset r z hz with ⟨e1, e2⟩ | ⟨e1, e2⟩ <;> rcases hset r' z' hz' with ⟨f1, f2⟩ | ⟨f1, f2⟩
   · rw [e1, f1]
   · subst e1; subst e2
     rw [own_eq (K.put_ρ' k v g f1)] at hb'
     exact (key r' z' f1 f2 hb' (howny b hb)).elim
   · subst f1; subst f2
     rw [own_eq (K.put_ρ' k v g e1)] at hb
     exact (key r z e1 e2 hb (howny b hb')).elim
   · rw [own_eq (K.put_ρ' k v g e1)] at hb
     rw [own_eq (K.put_ρ' k v g f1)] at hb'
     exact h.inj r r' z z' b e2 f2 hb hb'
 · obtain ⟨g1, g2, g3⟩ := h.kp.fr b hb
   exact ⟨Nat.lt_of_lt_of_le g1 hbel.size, (hblk b g1 (fun e => h.nf id x b hx e.symm hb)).trans g2, g3⟩
 · rcases hset r z hz with ⟨e1, e2⟩ | ⟨e1, e2⟩
   · subst e1; subst e2
     obtain ⟨h1, h2⟩ := hnew b (howny b hb)
     rcases h1 with h1 | h1
     · exact fun hf => by have := (h.kp.fr b hf).1; omega
     · exact h.nf r x b hx h1
   · rw [own_eq (K.put_ρ' k v g e1)] at hb
     exact h.nf r z b e2 hb
end Go.Pv
namespace Go.Pv
open Go.RowKit (Below)
theorem td_facts {P : Program} {t : TypeId} {d : TD} (h : tdOf P t = some d) : ∃ i z u, P.info? t = some i ∧ P.underlying t = some u ∧ i.zero = some z ∧ constsOf z.cells.toList = some d.zero ∧ kindOf P u = some d.kind ∧
   aggV z = aggD u ∧ d.agg = aggD u ∧ d.size = i.size ∧ d.zero.length = i.size := by
 unfold tdOf at h
 split at h
 · rename_i i u hi hu
   split at h
   · rename_i z hz
     split at h
     · rename_i zs kk h1 h2
       split at h
       · rename_i hc
         simp only [Option.some.injEq] at h
         subst h
         exact ⟨i, z, u, hi, hu, hz, h1, h2, hc.1, rfl, rfl, hc.2⟩
       · cases h
     · cases h
   · cases h
 · cases h
theorem const_rep {Q : Nat → Prop} {w : World} {v : Value} {i : IV} (h : constOf v = some i) : RepI Q w i v ∧ one v := by
 unfold constOf at h
 split at h
 case h_5 f a b =>
   split at h
   · rename_i hc
     simp only [Option.some.injEq] at h
     subst h
     obtain ⟨h1, h2⟩ := hc
     rw [Array.eq_empty_of_size_eq_zero h1, Array.eq_empty_of_size_eq_zero h2]
     exact ⟨by unfold RepI; rfl, rfl⟩
   · cases h
 all_goals first | (cases h; done) | (simp only [Option.some.injEq] at h; subst h; exact ⟨by unfold RepI; rfl, rfl⟩)
theorem consts_rep {Q : Nat → Prop} {w : World} : ∀ {vs : List Value} {is : List IV}, constsOf vs = some is → RepC Q w is vs
 | [], is, h => by
   simp only [constsOf, Option.some.injEq] at h
   subst h
   unfold RepC; rfl
 | v :: r, is, h => by
   unfold constsOf at h
   split at h
   · rename_i i js h1 h2
     simp only [Option.some.injEq] at h
     subst h
     unfold RepC
     exact ⟨v, r, rfl, (const_rep (Q := Q) (w := w) h1).2, (const_rep h1).1, consts_rep h2⟩
   · cases h
theorem const2_rep {Q : Nat → Prop} {w : World} {v : Value} {i : IV} (h : constOf2 v = some i) : RepI Q w i v := by
 unfold constOf2 at h
 split at h
 · split at h
   · rename_i vs _ cs hc
     simp only [Option.some.injEq] at h
     subst h
     rw [RepI_agg]
     exact ⟨vs.toList, by simp, consts_rep hc⟩
   · cases h
 · exact (const_rep h).1
theorem ofC_reps {k : K} {n : Nat} {w : World} : ∀ {cs : List IV} {vs : List Value}, RepC k.Q w cs vs → RepT k n w (cs.map ofC) vs
 | [], vs, h => by unfold RepC at h; simpa [RepT] using h
 | c :: cs, vs, h => by
   unfold RepC at h
   obtain ⟨v, r, e, _, h1, h2⟩ := h
   rw [List.map_cons]
   unfold RepT
   refine ⟨v, r, e, ?_, ofC_reps h2⟩
   cases c with
   | ip is => unfold RepI at h1; unfold ofC Rep; exact h1
   | _ => exact Rep_imm.2 h1
theorem capsI_rep {k : K} {n : Nat} {w : World} : ∀ {cs : List PV} {is : List IV} {vs : List Value}, capsI cs = some is → RepT k n w cs vs → RepC k.Q w is vs
 | [], is, vs, h, hr => by
   unfold capsI at h
   simp only [Option.some.injEq] at h
   subst h
   unfold RepT at hr
   unfold RepC
   exact hr
 | c :: cs, is, vs, h, hr => by
   unfold RepT at hr
   obtain ⟨v, r, e, h1, h2⟩ := hr
   have go : ∀ i : IV, one v → RepI k.Q w i v → (capsI cs).map (fun is => i :: is) = some is → RepC k.Q w is vs := by
     intro i ho hi hm
     cases hc : capsI cs with
     | none => rw [hc] at hm; cases hm
     | some js =>
       rw [hc] at hm
       simp only [Option.map_some, Option.some.injEq] at hm
       subst hm
       unfold RepC
       exact ⟨v, r, e, ho, hi, capsI_rep hc h2⟩
   unfold capsI at h
   split at h
   · rename_i heq; cases heq
   · rename_i heq
     injection heq with e1 e2
     subst e1; subst e2
     refine go _ ?_ (by unfold RepI; unfold Rep at h1; exact h1) h
     unfold Rep at h1
     obtain ⟨_, _, _, ev, _⟩ := h1
     rw [ev]; rfl
   all_goals first
     | (rename_i heq
        injection heq with e1 e2
        subst e1; subst e2
        have h3 := Rep_imm.1 h1
        refine go _ ?_ h3 h
        unfold RepI at h3
        first
          | (rw [h3]; rfl)
          | (obtain ⟨_, _, ev, _⟩ := h3; rw [ev]; rfl))
     | cases h
theorem toI_rep {k : K} {n : Nat} {w : World} {p : PV} {i : IV} {v : Value} (h : toI p = some i) (hr : Rep k n w p v) : RepI k.Q w i v := by
 unfold toI at h
 split at h
 · simp only [Option.some.injEq] at h
   subst h
   exact Rep_imm.1 hr
 · rename_i f cs
   cases hc : capsI cs with
   | none => rw [hc] at h; cases h
   | some is =>
     rw [hc] at h
     simp only [Option.map_some, Option.some.injEq] at h
     subst h
     unfold Rep at hr
     obtain ⟨vs, e, h1⟩ := hr
     unfold RepI
     exact ⟨vs, e, capsI_rep hc h1⟩
 · cases h
def pev (Γ : Ctx) (E : List PV) : Operand → PV
 | .tmp t => E.getD t .any
 | .const v => pconst v
 | .global g => match Γ.X.gl g with
   | some cs => .iptr cs
   | none => .any
 | .func f => .imm (.fn f)
section
variable {P : Program} {Γ : Ctx} {k : K} {w : World} {a : Act} {s : St} (hI : Inv Γ k s.B w) (hT : RepT k s.B.length w s.E a.tmps.toList)
include hI hT
theorem eval_rep (x : Operand) : Rep k s.B.length w (pev Γ s.E x) (a.eval x) := by
 cases x with
 | tmp t =>
   have h := RepT_get hT t undef
   simpa [pev, Act.eval, Array.getD_eq_getD_getElem?, List.getD] using h
 | const v =>
   simp only [pev, pconst, Act.eval]
   cases hc : constOf2 v with
   | none => exact Rep_any _ _ _ _
   | some i => exact Rep_imm.2 (const2_rep hc)
 | global g =>
   simp only [pev, Act.eval]
   cases hg : Γ.X.gl g with
   | none => exact Rep_any _ _ _ _
   | some cs => exact hI.gl g cs hg
 | func f => simp only [pev, Act.eval]; exact Rep_imm.2 (by unfold RepI; rfl)
omit hI hT in
def setB (B : List Blk) : List (Nat × Blk) → List Blk
 | [] => B
 | (r, b) :: ws => setB (B.set r b) ws
omit hI hT in
theorem setB_len : ∀ (ws : List (Nat × Blk)) (B : List Blk), (setB B ws).length = B.length
 | [], _ => rfl
 | (r, b) :: ws, B => by unfold setB; rw [setB_len ws, List.length_set]
def Does (P : Program) (Γ : Ctx) (k : K) (w : World) (a : Act) (B : List Blk) (o : Oper) (out : Out) : Prop :=
 ∀ (next : Act → World → Prop) (Q : Exit → Act → World → Prop), (∀ v w' k', Ext k B.length w k' B.length w' → Inv Γ k' (setB B out.ws) w' → Rep k' B.length w' out.v v → next (a.put o.dst v) w') → o.wp P a w next Q
omit hT in
theorem does_value {o : Oper} {v : Value} {p : PV} (he : (execOp a.eval o).run P w = .ok (.value v) w) (hr : Rep k s.B.length w p v) : Does P Γ k w a s.B o ⟨p, [], none⟩ := fun next Q h => by
 unfold Oper.wp
 rw [he]
 exact h v w k (Ext.refl _ _ _) hI hr
omit hT hI in
theorem does_step {o : Oper} {v : Value} {p : PV} {w' : World} {k' : K} {ws : List (Nat × Blk)} {ob : Option Ob} (he : (execOp a.eval o).run P w = .ok (.value v) w') (h1 : Ext k s.B.length w k' s.B.length w') (h2 : Inv Γ k' (setB s.B ws) w') (hr : Rep k' s.B.length w' p v) : Does P Γ k w a s.B o ⟨p, ws, ob⟩ := fun next Q h => by
 unfold Oper.wp
 rw [he]
 exact h v w' k' h1 h2 hr
omit hT hI in
theorem does_skip {o : Oper} {w' : World} {k' : K} {ws : List (Nat × Blk)} {ob : Option Ob} (he : (execOp a.eval o).run P w = .ok .skip w') (h1 : Ext k s.B.length w k' s.B.length w') (h2 : Inv Γ k' (setB s.B ws) w') : Does P Γ k w a s.B o ⟨.any, ws, ob⟩ := fun next Q h => by
 unfold Oper.wp
 rw [he]
 exact h undef w' k' h1 h2 (Rep_any _ _ _ _)
omit hI hT in
theorem imm_int {kk : IntKind} {z : Int} {v : Value} (h : Rep k s.B.length w (.imm (.int kk z)) v) : v = .int kk z := by rw [Rep_imm] at h; unfold RepI at h; exact h
omit hI hT in
theorem imm_bool {b : Bool} {v : Value} (h : Rep k s.B.length w (.imm (.bool b)) v) : v = .bool b := by rw [Rep_imm] at h; unfold RepI at h; exact h
omit hI hT in
theorem imm_str {b : ByteArray} {v : Value} (h : Rep k s.B.length w (.imm (.str b)) v) : v = .string b := by rw [Rep_imm] at h; unfold RepI at h; exact h
omit hI hT in
theorem imm_fn {f : FuncId} {v : Value} (h : Rep k s.B.length w (.imm (.fn f)) v) : v = .func (.func f) #[] #[] := by rw [Rep_imm] at h; unfold RepI at h; exact h
omit hI hT in
theorem mk_int {kk : IntKind} {z : Int} : Rep k s.B.length w (.imm (.int kk z)) (.int kk z) := by rw [Rep_imm]; unfold RepI; rfl
omit hI hT in
theorem mk_bool {b : Bool} : Rep k s.B.length w (.imm (.bool b)) (.bool b) := by rw [Rep_imm]; unfold RepI; rfl
omit hI hT in
theorem mk_str {b : ByteArray} : Rep k s.B.length w (.imm (.str b)) (.string b) := by rw [Rep_imm]; unfold RepI; rfl
omit hT in
theorem ref_box {r g off : Nat} {cs : List PV} {v : Value} {t : Option TypeId} (h : Rep k s.B.length w (.ptr r g off) v) (hb : s.B[r]? = some (.box g cs t)) :
   ∃ b c ty, v = .pointer (some ⟨b, off, none⟩) ∧ k.ρ r = .pointer (some ⟨b, 0, none⟩) ∧ k.G r = g ∧ Γ.N ≤ b ∧ w.heap[b]? = some (.cells c (t.getD ty) (0, 0)) ∧ RepL k s.B.length w cs c.toList := by
 unfold Rep at h
 obtain ⟨_, h1, h2, h3⟩ := h
 obtain ⟨g1, b, c, ty, g2, g3, g4, g5⟩ := hI.blk r _ hb
 obtain ⟨b', e1, e2⟩ := h3 g1.symm
 rw [g2] at e1
 injection e1 with e1
 subst e1
 exact ⟨_, c, ty, e2, g2, g1, g3, g4, g5⟩
end
section
variable {P : Program} {w : World}
theorem run_isAgg {t : TypeId} {u : TypeDesc} (hu : P.underlying t = some u) : (isAgg t).run P w = .ok (aggD u) w := by
 unfold isAgg
 rw [Sem.run_bind, run_underlying hu w]
 cases u <;> rfl
theorem run_sizeOf {t : TypeId} {i : TypeInfo} (hi : P.info? t = some i) : (sizeOf t).run P w = .ok i.size w := by
 simp [sizeOf, typeInfo, hi]
theorem run_zero {t : TypeId} {i : TypeInfo} {z : Value} (hi : P.info? t = some i) (hz : i.zero = some z) : (zeroValue t).run P w = .ok z w := by
 simp [zeroValue, typeInfo, hi, hz]
theorem run_loadVar {t : TypeId} {d : TD} (h : tdOf P t = some d) (ad : Addr) (vs : List Value) (hl : vs.length = d.size) (hc : ∀ j u, vs[j]? = some u → w.cell? (ad.add j) = some u) (hs : d.agg = false → d.size = 1) :
   (loadVar t ad).run P w = .ok (if d.agg then .agg vs.toArray else vs.getD 0 undef) w := by
 obtain ⟨i, z, u, h1, h2, _, _, _, _, h7, h8, _⟩ := td_facts h
 unfold loadVar
 rw [Sem.run_bind, run_isAgg h2, Result.andThen_ok, ← h7]
 cases hd : d.agg with
 | true =>
   simp only [if_true]
   rw [Sem.run_bind, run_sizeOf h1, Result.andThen_ok, ← h8, ← hl, Sem.run_bind, run_loadCells_list (P := P) w ad vs hc]
   rfl
 | false =>
   simp only [Bool.false_eq_true, if_false]
   have h1 := hs hd
   rw [h1] at hl
   match vs, hl with
   | [x], _ =>
     have := hc 0 x rfl
     rw [run_load]
     simp only [Addr.add, if_true] at this
     rw [this]
     rfl
theorem td_one {t : TypeId} {d : TD} (h : tdOf P t = some d) (ha : d.agg = false) : d.size = 1 := by
 obtain ⟨i, z, u, h1, h2, h3, h4, _, h6, h7, h8, h9⟩ := td_facts h
 rw [← h7, ha] at h6
 have hz : z.cells.size = 1 := by cases z <;> first | rfl | (cases h6)
 have hl : ∀ (vs : List Value) (is : List IV), constsOf vs = some is → is.length = vs.length := fun vs is h => RepC_len (Q := fun _ => True) (w := default) (consts_rep h)
 have := hl _ _ h4
 rw [Array.length_toList, hz, h9, ← h8] at this
 exact this
end
section
variable {Γ : Ctx} {k : K} {w : World} {s : St} (hI : Inv Γ k s.B w)
include hI
theorem ref_row {r g sz : Nat} {el : TypeId} {es : List PV} {v : Value} (h : Rep k s.B.length w (.row r g) v) (hb : s.B[r]? = some (.row el sz g es)) :
   ∃ xs, v = k.ρ r ∧ w.ownsRow Γ.N el sz (k.ρ r) es.length xs ∧ RepE k s.B.length w sz es xs ∧ k.G r = g := by
 unfold Rep at h
 obtain ⟨_, _, _, h3⟩ := h
 obtain ⟨g1, xs, g2, g3⟩ := hI.blk r _ hb
 exact ⟨xs, h3 g1.symm, g2, g3, g1⟩
theorem ref_eptr0 {r g sz sz' i o : Nat} {el : TypeId} {es : List PV} {v : Value} (h : Rep k s.B.length w (.eptr r g sz i o) v) (hb : s.B[r]? = some (.row el sz' g es)) :
   ∃ b, base (k.ρ r) = some b ∧ v = .pointer (some ⟨b, i * sz + o, none⟩) := by
 unfold Rep at h
 obtain ⟨_, _, _, h3⟩ := h
 obtain ⟨g1, _⟩ := hI.blk r _ hb
 exact h3 g1.symm
theorem ref_sub {r g sz sz2 q m : Nat} {el : TypeId} {es : List PV} {v : Value} (h : Rep k s.B.length w (.sub r g sz q m) v) (hb : s.B[r]? = some (.row el sz2 g es)) :
   ∃ a c ad cap, v = .slice a m c ∧ m ≤ c ∧ c ≤ maxLen ∧ q + m ≤ es.length ∧ k.G r = g ∧ k.ρ r = .slice ad es.length cap ∧ (0 < m → ∃ b, ad = some ⟨b, 0, none⟩ ∧ a = some ⟨b, q * sz, none⟩) := by
 unfold Rep at h
 obtain ⟨_, _, _, h3⟩ := h
 obtain ⟨g1, xs, g2, _⟩ := hI.blk r _ hb
 obtain ⟨a, c, ad, len, cap, e1, e2, e3, e4, e5, e6⟩ := h3 g1.symm
 have hl : len = es.length := by
   rcases g2.2 with ⟨p1, p2⟩ | ⟨b, cap', cur, p1, _⟩
   · rw [e4] at p1; injection p1 with _ p1; omega
   · rw [e4] at p1; injection p1 with _ p1
 subst hl
 exact ⟨a, c, ad, cap, e1, e2, e3, e5, g1, e4, e6⟩
theorem row_open {r g sz : Nat} {el : TypeId} {es : List PV} (hb : s.B[r]? = some (.row el sz g es)) (hne : 0 < es.length) :
   ∃ b cap cur xs, k.ρ r = .slice (some ⟨b, 0, none⟩) es.length cap ∧ Γ.N ≤ b ∧ w.heap[b]? = some (.cells cur el (0, 0)) ∧ es.length ≤ cap ∧ cap ≤ maxLen ∧ cur.size = cap * sz ∧ cur.toList.take (es.length * sz) = xs ∧ xs.length = es.length * sz ∧ RepE k s.B.length w sz es xs ∧ k.G r = g := by
 obtain ⟨g1, xs, g2, g3⟩ := hI.blk r _ hb
 rcases g2.2 with ⟨_, e2⟩ | ⟨b, cap, cur, e1, e2, e3, e4, e5, e6, e7⟩
 · omega
 · exact ⟨b, cap, cur, xs, e1, e2, e3, e4, e5, e6, e7, g2.1, g3, g1⟩
end
section
variable {k : K} {w : World}
theorem own_form {N : Nat} {el : TypeId} {sz n : Nat} {v : Value} {xs : List Value} (h : w.ownsRow N el sz v n xs) : ∃ ad c, v = .slice ad n c := by
 rcases h.2 with ⟨rfl, rfl⟩ | ⟨g, cap, cur, rfl, _⟩
 · exact ⟨_, _, rfl⟩
 · exact ⟨_, _, rfl⟩
theorem own_base {N : Nat} {el : TypeId} {sz n : Nat} {v : Value} {xs : List Value} (h : w.ownsRow N el sz v n xs) : base v = v.ownBlock := by
 obtain ⟨ad, c, e⟩ := own_form h
 subst e
 cases ad <;> rfl
theorem RepE_len {kk : K} {n sz : Nat} : ∀ {es : List PV} {xs : List Value}, RepE kk n w sz es xs → xs.length = es.length * sz ∧ ∀ u ∈ xs, u.oneCell' = true
 | [], xs, h => by unfold RepE at h; subst h; simp
 | e :: es, xs, h => by
   unfold RepE at h
   obtain ⟨v, r, e1, h1, h2, h3, h4⟩ := h
   subst e1
   obtain ⟨g1, g2⟩ := RepE_len h4
   refine ⟨by rw [List.length_append, Array.length_toList, h1, g1, List.length_cons, Nat.succ_mul]; omega, fun u hu => ?_⟩
   rcases List.mem_append.1 hu with hu | hu
   · exact h2 u hu
   · exact g2 u hu
theorem RepE_at {n sz : Nat} : ∀ {es : List PV} {xs : List Value} {i : Nat} {p : PV}, RepE k n w sz es xs → es[i]? = some p → ∃ v, Rep k n w p v ∧ v.cells.size = sz ∧ ∀ j u, v.cells.toList[j]? = some u → xs[i * sz + j]? = some u
 | [], _, _, _, _, h => by simp at h
 | e :: es, xs, 0, p, hr, h => by
   unfold RepE at hr
   obtain ⟨v, r, e1, h1, h2, h3, h4⟩ := hr
   subst e1
   simp only [List.getElem?_cons_zero, Option.some.injEq] at h
   subst h
   refine ⟨v, h3, h1, fun j u hj => ?_⟩
   rw [Nat.zero_mul, Nat.zero_add, List.getElem?_append_left (by have := (List.getElem?_eq_some_iff.1 hj).1; exact this)]
   exact hj
 | e :: es, xs, i + 1, p, hr, h => by
   unfold RepE at hr
   obtain ⟨v, r, e1, h1, h2, h3, h4⟩ := hr
   subst e1
   obtain ⟨v', g1, g2, g3⟩ := RepE_at h4 (by simpa using h)
   refine ⟨v', g1, g2, fun j u hj => ?_⟩
   rw [List.getElem?_append_right (by rw [Array.length_toList, h1, Nat.succ_mul]; omega), Array.length_toList, h1]
   rw [show (i + 1) * sz + j - sz = i * sz + j by rw [Nat.succ_mul]; omega]
   exact g3 j u hj
theorem RepE_set {n sz : Nat} {p' : PV} {v' : Value} (hv : v'.cells.size = sz) (h1 : ∀ u ∈ v'.cells.toList, one u) (hp : Rep k n w p' v') : ∀ {es : List PV} {xs : List Value} {i : Nat}, RepE k n w sz es xs → i < es.length → RepE k n w sz (es.set i p') (xs.take (i * sz) ++ v'.cells.toList ++ xs.drop ((i + 1) * sz))
 | [], _, _, _, h => by simp at h
 | e :: es, xs, 0, hr, h => by
   unfold RepE at hr
   obtain ⟨v, r, e1, g1, g2, g3, g4⟩ := hr
   subst e1
   simp only [List.set_cons_zero]
   unfold RepE
   refine ⟨v', r, ?_, hv, h1, hp, g4⟩
   rw [Nat.zero_mul, List.take_zero, List.nil_append, Nat.zero_add, Nat.one_mul, List.drop_append, List.drop_of_length_le (by rw [Array.length_toList, g1]; exact Nat.le_refl _), Array.length_toList, g1]
   simp
 | e :: es, xs, i + 1, hr, h => by
   unfold RepE at hr
   obtain ⟨v, r, e1, g1, g2, g3, g4⟩ := hr
   subst e1
   have ih := RepE_set hv h1 hp (i := i) g4 (by simpa using h)
   simp only [List.set_cons_succ]
   unfold RepE
   refine ⟨v, _, ?_, g1, g2, g3, ih⟩
   have hl : v.cells.toList.length = sz := by rw [Array.length_toList, g1]
   rw [List.take_append, List.take_of_length_le (by rw [hl, Nat.succ_mul]; omega), List.drop_append, List.drop_of_length_le (by rw [hl, Nat.succ_mul]; omega), hl]
   rw [show (i + 1) * sz - sz = i * sz by rw [Nat.succ_mul]; omega, show (i + 1 + 1) * sz - sz = (i + 1) * sz by rw [Nat.succ_mul]; omega]
   simp
theorem join_rep {n : Nat} {p : PV} {v : Value} {cs cs' : List PV} {vs' : List Value} (h : Rep k n w p v) (hc : cellsP p = some cs) (hl : cs'.length = cs.length) (hr : RepL k n w cs' vs') :
   ∃ v', Rep k n w (joinP p cs') v' ∧ v'.cells.toList = vs' := by
 have single : cs.length = 1 → (∀ c, cs' = [c] → joinP p cs' = c) → ∃ v', Rep k n w (joinP p cs') v' ∧ v'.cells.toList = vs' := by
   intro h1 h2
   match cs', hl.trans h1, hr with
   | [c], _, hr =>
     unfold RepL at hr
     obtain ⟨u, r, e, h3, h4, h5⟩ := hr
     unfold RepL at h5
     subst h5
     subst e
     refine ⟨u, by rw [h2 c rfl]; exact h4, ?_⟩
     cases u <;> first | rfl | (simp [one, Value.oneCell'] at h3)
 cases p with
 | any => cases hc
 | tup _ => cases hc
 | agg ps => exact ⟨.agg vs'.toArray, Rep_norm (Rep_agg.2 ⟨vs', rfl, hr⟩), rfl⟩
 | imm i =>
   cases i with
   | agg is => exact ⟨.agg vs'.toArray, Rep_norm (Rep_agg.2 ⟨vs', rfl, hr⟩), rfl⟩
   | _ =>
     simp only [cellsP, cellsI, Option.some.injEq] at hc
     refine single (by rw [← hc]; rfl) (fun c e => by rw [e]; rfl)
 | _ =>
   simp only [cellsP, Option.some.injEq] at hc
   refine single (by rw [← hc]; rfl) (fun c e => by rw [e]; rfl)
end
end Go.Pv
namespace Go.Pv
open Go.RowKit (Below)
theorem fields_of {P : Program} : ∀ {l : List Field} {fs : List (Nat × Nat × Bool)} {f fo fz : Nat} {fa : Bool}, fieldsOf P l = some fs → fs[f]? = some (fo, fz, fa) → ∃ (fd : Field) (i : TypeInfo) (u : TypeDesc), l[f]? = some fd ∧ fd.offset = fo ∧ P.info? fd.type = some i ∧ i.size = fz ∧ P.underlying fd.type = some u ∧ aggD u = fa
 | [], fs, f, fo, fz, fa, h, hf => by
   simp only [fieldsOf, Option.some.injEq] at h
   subst h
   simp at hf
 | x :: r, fs, f, fo, fz, fa, h, hf => by
   unfold fieldsOf at h
   split at h
   · rename_i i u gs h1 h2 h3
     simp only [Option.some.injEq] at h
     subst h
     cases f with
     | zero =>
       simp only [List.getElem?_cons_zero, Option.some.injEq, Prod.mk.injEq] at hf
       obtain ⟨e1, e2, e3⟩ := hf
       exact ⟨x, i, u, rfl, e1, h1, e2, h2, e3⟩
     | succ f => simpa using fields_of h3 (by simpa using hf)
   · cases h
theorem field_of {P : Program} {t : TypeId} {u : TypeDesc} {fs : List (Nat × Nat × Bool)} {f fo fz : Nat} {fa : Bool} (hu : P.underlying t = some u) (hk : kindOf P u = some (.struct fs)) (hf : fs[f]? = some (fo, fz, fa)) :
   ∃ (fields : Array Field) (fd : Field) (i : TypeInfo), P.underlying t = some (.struct fields) ∧ fields[f]? = some fd ∧ fd.offset = fo ∧ P.info? fd.type = some i ∧ i.size = fz := by
 unfold kindOf at hk
 split at hk <;> first | (cases hk; done) | (rename_i n e'; cases hq : P.info? e' <;> rw [hq] at hk <;> cases hk; done) | skip
 · rename_i fields
   cases hq : fieldsOf P fields.toList with
   | none => rw [hq] at hk; cases hk
   | some gs =>
     rw [hq] at hk
     simp only [Option.map_some, Option.some.injEq, TK.struct.injEq] at hk
     subst hk
     obtain ⟨fd, i, u', h1, h2, h3, h4, _⟩ := fields_of hq hf
     exact ⟨fields, fd, i, hu, by simpa using h1, h2, h3, h4⟩
theorem field_of' {P : Program} {t : TypeId} {u : TypeDesc} {fs : List (Nat × Nat × Bool)} {f fo fz : Nat} {fa : Bool} (hu : P.underlying t = some u) (hk : kindOf P u = some (.struct fs)) (hf : fs[f]? = some (fo, fz, fa)) :
   ∃ (fields : Array Field) (fd : Field) (i : TypeInfo) (u : TypeDesc), P.underlying t = some (.struct fields) ∧ fields[f]? = some fd ∧ fd.offset = fo ∧ P.info? fd.type = some i ∧ i.size = fz ∧ P.underlying fd.type = some u ∧ aggD u = fa := by
 unfold kindOf at hk
 split at hk <;> first | (cases hk; done) | (rename_i n e'; cases hq : P.info? e' <;> rw [hq] at hk <;> cases hk; done) | skip
 · rename_i fields
   cases hq : fieldsOf P fields.toList with
   | none => rw [hq] at hk; cases hk
   | some gs =>
     rw [hq] at hk
     simp only [Option.map_some, Option.some.injEq, TK.struct.injEq] at hk
     subst hk
     obtain ⟨fd, i, u', h1, h2, h3, h4, h5, h6⟩ := fields_of hq hf
     exact ⟨fields, fd, i, u', hu, by simpa using h1, h2, h3, h4, h5, h6⟩
theorem slice_of {P : Program} {u : TypeDesc} {e : TypeId} {sz bb : Nat} (hk : kindOf P u = some (.slice e sz bb)) : ∃ i, u = .slice e ∧ P.info? e = some i ∧ i.size = sz := by
 unfold kindOf at hk
 split at hk <;> first | (cases hk; done) | (rename_i n e'; cases hq : P.info? e' <;> rw [hq] at hk <;> cases hk; done) | skip
 · rename_i fields
   cases hq : fieldsOf P fields.toList with
   | none => rw [hq] at hk; cases hk
   | some gs => rw [hq] at hk; cases hk
 · rename_i e'
   cases hq : P.info? e' with
   | none => rw [hq] at hk; cases hk
   | some i =>
     rw [hq] at hk
     simp only [Option.map_some, Option.some.injEq, TK.slice.injEq] at hk
     obtain ⟨e1, e2, e3⟩ := hk
     subst e1
     exact ⟨i, rfl, hq, e2⟩
theorem slice_of' {P : Program} {u : TypeDesc} {e : TypeId} {sz bb : Nat} (hk : kindOf P u = some (.slice e sz bb)) : ∃ i, u = .slice e ∧ P.info? e = some i ∧ i.size = sz ∧ i.bytes = bb := by
 unfold kindOf at hk
 split at hk <;> first | (cases hk; done) | (rename_i n e'; cases hq : P.info? e' <;> rw [hq] at hk <;> cases hk; done) | skip
 · rename_i fields
   cases hq : fieldsOf P fields.toList with
   | none => rw [hq] at hk; cases hk
   | some gs => rw [hq] at hk; cases hk
 · rename_i e'
   cases hq : P.info? e' with
   | none => rw [hq] at hk; cases hk
   | some i =>
     rw [hq] at hk
     simp only [Option.map_some, Option.some.injEq, TK.slice.injEq] at hk
     obtain ⟨e1, e2, e3⟩ := hk
     subst e1
     exact ⟨i, rfl, hq, e2, e3⟩
theorem int_of {P : Program} {u : TypeDesc} {kk : IntKind} (hk : kindOf P u = some (.int kk)) : u = .int kk := by
 unfold kindOf at hk
 split at hk
 · simp only [Option.some.injEq, TK.int.injEq] at hk; rw [hk]
 · cases hk
 · cases hk
 · rename_i fields
   cases hq : fieldsOf P fields.toList with
   | none => rw [hq] at hk; cases hk
   | some gs => rw [hq] at hk; cases hk
 · rename_i e'
   cases hq : P.info? e' with
   | none => rw [hq] at hk; cases hk
   | some i => rw [hq] at hk; cases hk
 · cases hk
 · cases hk
 · cases hk
 · rename_i n e'
   cases hq : P.info? e' with
   | none => rw [hq] at hk; cases hk
   | some i => rw [hq] at hk; cases hk
 · cases hk
theorem str_of {P : Program} {u : TypeDesc} (hk : kindOf P u = some .str) : u = .string := by
 unfold kindOf at hk
 split at hk <;> first | rfl | (cases hk; done) | (rename_i n e'; cases hq : P.info? e' <;> rw [hq] at hk <;> cases hk; done) | skip
 · rename_i fields
   cases hq : fieldsOf P fields.toList with
   | none => rw [hq] at hk; cases hk
   | some gs => rw [hq] at hk; cases hk
section
variable {P : Program} {Γ : Ctx} {k : K} {w : World} {a : Act} {s : St} (hI : Inv Γ k s.B w) {look : Operand → PV} (hT : ∀ x, Rep k s.B.length w (look x) (a.eval x)) {o : Oper} {id : Nat} {get : Nat → Option Blk} {cr : List Orc} {out : Out} (hget : ∀ r b, get r = some b → s.B[r]? = some b)
include hI hT hget
omit hget in
theorem does_move {x : Operand} (ho : o.op = .move x ∨ o.op = .assign x) : Does P Γ k w a s.B o ⟨look x, [], none⟩ := by
 refine does_value hI ?_ (hT x)
 rcases ho with ho | ho <;> simp [execOp, ho]
omit hget in
theorem does_pick {c x y : Operand} (ho : o.op = .pick c x y) (h : absOp P Γ.eqT o id look get cr = some out) : Does P Γ k w a s.B o out := by
 unfold absOp at h
 simp only [ho] at h
 split at h
 · rename_i t hc
   simp only [val, Option.some.injEq] at h
   subst h
   have e := hT c
   rw [hc] at e
   have ec := imm_bool e
   refine does_value hI (v := if t then a.eval x else a.eval y) ?_ ?_
   · simp [execOp, ho, asBool, ec]
   · cases t
     · exact hT y
     · exact hT x
 · cases h
omit hT in
theorem does_new {cells : Array Value} {ty : TypeId} {cs : List PV} {g : Nat} {t' : Option TypeId} (hg : get id = some (.dead g)) (he : (execOp a.eval o).run P w = .ok (.value (.pointer (some ⟨w.heap.size, 0, none⟩))) (w.alloc (.cells cells ty)))
   (hL : RepL k s.B.length w cs cells.toList) (ht' : t'.getD ty = ty := by rfl) : Does P Γ k w a s.B o ⟨.ptr id (g + 1) 0, [(id, .box (g + 1) cs t')], none⟩ := by
 have hd := hget _ _ hg
 have hG : k.G id = g := hI.blk id _ hd
 obtain ⟨h1, h2⟩ := inv_put (v := .pointer (some ⟨w.heap.size, 0, none⟩)) (g := g + 1) (y := .box (g + 1) cs t') (w' := w.alloc (.cells cells ty)) hI hd (Or.inl (by omega)) ((Below.refl _ _).alloc hI.le _)
   (fun b hb _ => Below.heap_alloc _ _ _ hb) (fun b hb => by
     injection hb with hb
     subst hb
     exact ⟨Or.inl (Nat.le_refl _), by simp⟩) (fun hx => by
     refine ⟨K.put_G _ _ _ _, w.heap.size, cells, ty, K.put_ρ _ _ _ _, hI.le, by rw [ht']; exact heap_alloc_new w _, ?_⟩
     exact RepL_mono hx cs _ hL)
 refine does_step he h1 (by unfold setB; unfold setB; exact h2) ?_
 unfold Rep
 refine ⟨rfl, (List.getElem?_eq_some_iff.1 hd).1, Nat.le_of_eq (K.put_G _ _ _ _).symm, fun _ => ⟨w.heap.size, ?_, rfl⟩⟩
 rw [K.put_ρ]
 rfl
omit hI hT hget in
theorem arr_of {P : Program} {u : TypeDesc} {n sz : Nat} {e : TypeId} (hk : kindOf P u = some (.arr n e sz)) : ∃ i, u = .array n e ∧ P.info? e = some i ∧ i.size = sz := by
 unfold kindOf at hk
 split at hk <;> first | (cases hk; done) | (rename_i fields; cases hq : fieldsOf P fields.toList <;> rw [hq] at hk <;> cases hk; done) | (rename_i e'; cases hq : P.info? e' <;> rw [hq] at hk <;> cases hk; done) | skip
 rename_i n' e'
 cases hq : P.info? e' with
 | none => rw [hq] at hk; cases hk
 | some i =>
   rw [hq] at hk
   simp only [Option.map_some, Option.some.injEq, TK.arr.injEq] at hk
   obtain ⟨rfl, rfl, rfl⟩ := hk
   exact ⟨i, rfl, hq, rfl⟩
omit hI hT hget in
theorem cells_one {v : Value} (h : one v) : v.cells = #[v] := by
 unfold one at h
 cases v <;> first | rfl | (simp [Value.oneCell'] at h)
omit hI hT hget in
theorem RepE_one {kk : K} {n : Nat} : ∀ {cs : List PV} {vs : List Value}, RepL kk n w cs vs → RepE kk n w 1 cs vs
 | [], vs, h => by unfold RepL at h; unfold RepE; exact h
 | c :: cs, vs, h => by
   unfold RepL at h
   obtain ⟨v, r, rfl, h1, h2, h3⟩ := h
   unfold RepE
   refine ⟨v, r, by rw [cells_one h1]; rfl, by rw [cells_one h1]; rfl, fun u hu => ?_, h2, RepE_one h3⟩
   rw [cells_one h1] at hu
   simp only [List.mem_singleton] at hu
   rw [hu]; exact h1
omit hI hT hget in
theorem RepE_part {kk : K} {n : Nat} : ∀ {es : List PV} {xs : List Value} (q m : Nat), RepE kk n w 1 es xs → RepE kk n w 1 ((es.drop q).take m) ((xs.drop q).take m)
 | [], xs, q, m, h => by unfold RepE at h; subst h; simp [RepE]
 | e :: es, xs, q, m, h => by
   have h0 := h
   unfold RepE at h
   obtain ⟨v, r, rfl, h1, h2, h3, h4⟩ := h
   obtain ⟨x, hx⟩ : ∃ x, v.cells.toList = [x] := by
     have hl : v.cells.toList.length = 1 := by simpa using h1
     match v.cells.toList, hl with
     | [x], _ => exact ⟨x, rfl⟩
   cases q with
   | succ q =>
     rw [hx]
     exact RepE_part q m h4
   | zero =>
     cases m with
     | zero => simp [RepE]
     | succ m =>
       have ih := RepE_part 0 m h4
       rw [hx]
       simp only [List.drop_zero, List.take_succ_cons, List.singleton_append] at ih ⊢
       unfold RepE
       exact ⟨v, _, by rw [hx]; rfl, h1, h2, h3, ih⟩
omit hT in
theorem does_alloc {t : TypeId} (ho : o.op = .alloc t) (h : absOp P Γ.eqT o id look get cr = some out) : Does P Γ k w a s.B o out := by
 unfold absOp at h
 simp only [ho] at h
 split at h
 · rename_i d g hd hg
   split at h
   · rename_i n ha
     split at h
     · rename_i hc
       obtain ⟨hn, hp, hm⟩ := hc
       simp only [Option.some.injEq] at h
       subst h
       obtain ⟨i, z, u, h1, h2, h3, h4, _⟩ := td_facts hd
       have hdd := hget _ _ hg
       have hG : k.G id = g := hI.blk id _ hdd
       have hE : RepE k s.B.length w 1 (d.zero.map .imm) z.cells.toList := RepE_one (RepL_imm (consts_rep h4))
       have hl := (RepE_len hE).1
       rw [List.length_map, Nat.mul_one, ← hn] at hl
       have hrun : (execOp a.eval o).run P w = .ok (.value (.pointer (some ⟨w.heap.size, 0, none⟩))) (w.alloc (.cells z.cells t)) := by
         simp [execOp, ho, Instr.alloc, zeroValue, typeInfo, h1, h3, newVar, newRow]
       have hown : (w.alloc (.cells z.cells t)).ownsRow Γ.N t 1 (.slice (some ⟨w.heap.size, 0, none⟩) n n) n z.cells.toList := by
         refine ⟨by omega, Or.inr ⟨w.heap.size, n, z.cells, rfl, hI.le, heap_alloc_new w _, Nat.le_refl _, ?_, ?_, ?_⟩⟩
         · unfold most at hm; simp only [maxLen]; omega
         · rw [← Array.length_toList]; omega
         · rw [List.take_of_length_le (by omega)]
       obtain ⟨r1, r2⟩ := inv_put (v := .slice (some ⟨w.heap.size, 0, none⟩) n n) (g := g + 1) (y := .row t 1 (g + 1) (d.zero.map .imm)) (w' := w.alloc (.cells z.cells t)) hI hdd (Or.inl (by omega)) ((Below.refl _ _).alloc hI.le _)
         (fun b hb _ => Below.heap_alloc _ _ _ hb) (fun b hb => by
           injection hb with hb
           subst hb
           exact ⟨Or.inl (Nat.le_refl _), by simp⟩) (fun hx => ⟨K.put_G _ _ _ _, z.cells.toList, by rw [K.put_ρ, List.length_map, ← hn]; exact hown, RepE_mono hx _ _ hE⟩)
       refine does_step hrun r1 (by unfold setB; unfold setB; exact r2) ?_
       unfold Rep
       exact ⟨rfl, (List.getElem?_eq_some_iff.1 hdd).1, Nat.le_of_eq (K.put_G _ _ _ _).symm, fun _ => ⟨w.heap.size, by rw [K.put_ρ]; rfl, by simp⟩⟩
     · cases h
   simp only [Option.some.injEq] at h
   subst h
   obtain ⟨i, z, u, h1, h2, h3, h4, _⟩ := td_facts hd
   refine does_new hI hget hg ?_ (RepL_imm (consts_rep h4)) (by unfold boxT; split <;> rfl) (ty := t)
   simp [execOp, ho, Instr.alloc, zeroValue, typeInfo, h1, h3, newVar, newRow]
 · cases h
theorem does_box {t : TypeId} {x : Operand} (ho : o.op = .box t x) (h : absOp P Γ.eqT o id look get cr = some out) : Does P Γ k w a s.B o out := by
 unfold absOp at h
 simp only [ho] at h
 split at h
 · rename_i cs g hc hg
   simp only [Option.some.injEq] at h
   subst h
   refine does_new hI hget hg ?_ (Rep_cells (hT x) hc) (ty := t)
   simp [execOp, ho, Instr.box, newVar, newRow]
 · cases h
omit hI hT hget in
theorem run_loadAt {t : TypeId} {d : TD} (hd : tdOf P t = some d) {b A off : Nat} {vs : List Value} {cs : List PV} {p : PV} {kk : K} {n : Nat} (hr : RepL kk n w cs vs) (hc : ∀ j u, vs[off + j]? = some u → w.cell? ⟨b, A + j, none⟩ = some u)
   (hp : partP cs off d.size d.agg = some p) : ∃ v, (Instr.loadAt t (.pointer (some ⟨b, A, none⟩))).run P w = .ok v w ∧ Rep kk n w p v := by
 have hadd : ∀ j, (⟨b, A, none⟩ : Addr).add j = ⟨b, A + j, none⟩ := fun j => by unfold Addr.add; split <;> simp_all
 unfold partP at hp
 cases ha : d.agg with
 | true =>
   rw [ha] at hp
   simp only [if_true] at hp
   split at hp
   · rename_i hle
     simp only [Option.some.injEq] at hp
     subst hp
     have hlen := RepL_len hr
     have hx := RepL_take (RepL_drop hr off) d.size
     refine ⟨.agg ((vs.drop off).take d.size).toArray, ?_, Rep_norm (Rep_agg.2 ⟨_, rfl, hx⟩)⟩
     have hl : ((vs.drop off).take d.size).length = d.size := by rw [List.length_take, List.length_drop]; omega
     have := run_loadVar (w := w) hd ⟨b, A, none⟩ ((vs.drop off).take d.size) hl (fun j u hj => by
       rw [hadd]
       rw [List.getElem?_take] at hj
       split at hj
       · rw [List.getElem?_drop] at hj; exact hc j u hj
       · cases hj) (fun e => by rw [ha] at e; cases e)
     rw [ha] at this
     simpa [Instr.loadAt, Instr.sureAddr] using this
   · cases hp
 | false =>
   rw [ha] at hp
   simp only [Bool.false_eq_true, if_false] at hp
   obtain ⟨v, hv, _, hrep⟩ := RepL_at hr off p hp
   have h1 := td_one hd ha
   refine ⟨v, ?_, hrep⟩
   have := run_loadVar (w := w) hd ⟨b, A, none⟩ [v] (by rw [h1]; rfl) (fun j u hj => by
     rw [hadd]
     cases j with
     | zero => simp only [List.getElem?_cons_zero, Option.some.injEq] at hj; subst hj; exact hc 0 v hv
     | succ j => simp at hj) (fun _ => h1)
   rw [ha] at this
   simpa [Instr.loadAt, Instr.sureAddr] using this
theorem does_load {t : TypeId} {x : Operand} (ho : o.op = .load t x) (h : absOp P Γ.eqT o id look get cr = some out) : Does P Γ k w a s.B o out := by
 unfold absOp at h
 simp only [ho] at h
 have e := hT x
 split at h
 · rename_i d r g off hd hx
   split at h
   · rename_i g' cs bt hg
     split at h
     · rename_i hgg
       subst hgg
       cases hp : partP cs off d.size d.agg with
       | none => rw [hp] at h; cases h
       | some p =>
         rw [hp] at h
         simp only [Option.bind_some, val, Option.some.injEq] at h
         subst h
         rw [hx] at e
         obtain ⟨b, c, ty, ev, _, _, _, hh, hL⟩ := ref_box hI e (hget _ _ hg)
         obtain ⟨v, hrun, hrep⟩ := run_loadAt (P := P) (w := w) hd (b := b) hL (fun j u hj => by rw [World.cell?, hh]; simpa using hj) hp
         refine does_value hI (v := v) ?_ hrep
         simp [execOp, ho, ev, hrun]
     · cases h
   · cases h
 · rename_i d r g sz i off hd hx
   split at h
   · rename_i el sz' g' es hg
     split at h
     · rename_i hc
       obtain ⟨rfl, rfl⟩ := hc
       split at h
       · rename_i q hq
         split at h
         · rename_i cs hcs
           cases hp : partP cs off d.size d.agg with
           | none => rw [hp] at h; cases h
           | some p =>
             rw [hp] at h
             simp only [Option.bind_some, val, Option.some.injEq] at h
             subst h
             rw [hx] at e
             have hlt : i < es.length := (List.getElem?_eq_some_iff.1 hq).1
             obtain ⟨b, hb1, ev⟩ := ref_eptr0 hI e (hget _ _ hg)
             obtain ⟨b', cap, cur, xs, e1, e2, e3, e4, e5, e6, e7, e8, e9, _⟩ := row_open hI (hget _ _ hg) (by omega)
             rw [e1] at hb1
             injection hb1 with hb1
             subst hb1
             obtain ⟨vq, r1, r2, r3⟩ := RepE_at e9 hq
             obtain ⟨v, hrun, hrep⟩ := run_loadAt (P := P) (w := w) hd (b := b') (A := i * sz + off) (Rep_cells r1 hcs) (fun j u hj => by
               have h1 := r3 _ u hj
               rw [← e7, List.getElem?_take] at h1
               split at h1
               · rw [World.cell?, e3]
                 rw [show i * sz + off + j = i * sz + (off + j) by omega]
                 simpa using h1
               · cases h1) hp
             refine does_value hI (v := v) ?_ hrep
             simp [execOp, ho, ev, hrun]
         · cases h
       · cases h
     · cases h
   · cases h
 · rename_i d cs hd hx
   cases hp : partI cs 0 d.size d.agg with
   | none => rw [hp] at h; cases h
   | some p =>
     rw [hp] at h
     simp only [Option.bind_some, val, Option.some.injEq] at h
     subst h
     rw [hx] at e
     unfold Rep at e
     obtain ⟨b, off, vs, ev, hq, hC, hcell⟩ := e
     have hadd : ∀ j, (⟨b, off, none⟩ : Addr).add j = ⟨b, off + j, none⟩ := fun j => by unfold Addr.add; split <;> simp_all
     unfold partI at hp
     cases ha : d.agg with
     | true =>
       rw [ha] at hp
       simp only [if_true, Nat.zero_add, List.drop_zero] at hp
       split at hp
       · rename_i hle
         simp only [Option.some.injEq] at hp
         subst hp
         have hlen := RepC_len hC
         refine does_value hI (v := .agg (vs.take d.size).toArray) ?_ (Rep_imm.2 (RepI_agg.2 ⟨_, rfl, RepC_take hC _⟩))
         have := run_loadVar (w := w) hd ⟨b, off, none⟩ (vs.take d.size) (by rw [List.length_take]; omega) (fun j u hj => by
           rw [hadd]
           rw [List.getElem?_take] at hj
           split at hj
           · exact hcell j u hj
           · cases hj) (fun e => by rw [ha] at e; cases e)
         rw [ha] at this
         simp only [if_true] at this
         simp [execOp, ho, ev, Instr.loadAt, Instr.sureAddr, this]
       · cases hp
     | false =>
       rw [ha] at hp
       simp only [Bool.false_eq_true, if_false] at hp
       obtain ⟨v, hv, _, hrep⟩ := RepC_at hC 0 p hp
       have h1 := td_one hd ha
       refine does_value hI (v := v) ?_ (Rep_imm.2 hrep)
       have := run_loadVar (w := w) hd ⟨b, off, none⟩ [v] (by rw [h1]; rfl) (fun j u hj => by
         rw [hadd]
         cases j with
         | zero => simp only [List.getElem?_cons_zero, Option.some.injEq] at hj; subst hj; exact hcell 0 v hv
         | succ j => simp at hj) (fun _ => h1)
       rw [ha] at this
       simp only [Bool.false_eq_true, if_false] at this
       simp [execOp, ho, ev, Instr.loadAt, Instr.sureAddr, this]
 · cases h
omit hI hT hget in
theorem RepL_one {kk : K} {n : Nat} : ∀ {cs : List PV} {vs : List Value}, RepL kk n w cs vs → ∀ v ∈ vs, v.oneCell' = true
 | [], vs, h, v, hv => by unfold RepL at h; subst h; cases hv
 | c :: cs, vs, h, v, hv => by
   unfold RepL at h
   obtain ⟨x, r, e, h0, _, h2⟩ := h
   subst e
   rcases List.mem_cons.1 hv with rfl | hv
   · exact h0
   · exact RepL_one h2 v hv
theorem does_store {t : TypeId} {x y : Operand} (ho : o.op = .store t x y) (h : absOp P Γ.eqT o id look get cr = some out) : Does P Γ k w a s.B o out := by
 unfold absOp at h
 simp only [ho] at h
 have e := hT x
 have ey := hT y
 split at h
 · rename_i d r g off ys hd hx hy
   split at h
   · rename_i g' cs bt hg
     split at h
     · rename_i hc
       obtain ⟨rfl, hsz, hle⟩ := hc
       simp only [Option.some.injEq] at h
       subst h
       rw [hx] at e
       have hb := hget _ _ hg
       obtain ⟨b, c, ty, ev, hρ, hG, hN, hh, hL⟩ := ref_box hI e hb
       have hY := Rep_cells ey hy
       have hYl := RepL_len hY
       have hLl : cs.length = c.size := by rw [RepL_len hL, Array.length_toList]
       obtain ⟨i, z, u, h1, h2, _, _, _, _, _, h8, _⟩ := td_facts hd
       have hst := run_storeCells_at P b off (bt.getD ty) (a.eval y).cells.toList 0 c w hh (by rw [← hYl, hsz]; simp only [Nat.add_zero]; omega) (RepL_one hY)
       simp only [Nat.add_zero] at hst
       have hlt : b < w.heap.size := (Array.getElem?_eq_some_iff.1 hh).1
       obtain ⟨q1, q2⟩ := inv_put (v := k.ρ r) (g := g) (y := .box g (cs.take off ++ ys ++ cs.drop (off + d.size)) bt) (w' := w.setRow b (c.toList.take off ++ (a.eval y).cells.toList ++ c.toList.drop (off + (a.eval y).cells.toList.length)).toArray) hI hb (Or.inr ⟨hG, rfl⟩)
         ⟨rfl, rfl, rfl, by simp, fun j hj => setRow_other w b j _ (by omega)⟩ (fun j _ hne => setRow_other w b j _ (by
           intro e
           apply hne
           show some j = base (k.ρ r)
           rw [hρ, e]; rfl)) (fun j hj => by
           rw [hρ] at hj
           injection hj with hj
           subst hj
           exact ⟨Or.inr (by show base (k.ρ r) = _; rw [hρ]; rfl), by simpa using hlt⟩) (fun hx => by
           refine ⟨K.put_G _ _ _ _, b, _, ty, by rw [K.put_ρ]; exact hρ, hN, setRow_heap w b c _ (bt.getD ty) _ hh, ?_⟩
           have hz : (a.eval y).cells.toList.length = d.size := by rw [← hYl]; exact hsz
           rw [show d.size = (a.eval y).cells.toList.length from hz.symm]
           exact RepL_mono hx _ _ (RepL_app (RepL_app (RepL_take hL off) hY) (RepL_drop hL _)))
       refine does_skip (w' := w.setRow b (c.toList.take off ++ (a.eval y).cells.toList ++ c.toList.drop (off + (a.eval y).cells.toList.length)).toArray) ?_ q1 (by unfold setB; unfold setB; exact q2)
       have hz : (a.eval y).cells.size = i.size := by rw [← h8, ← hsz, hYl, Array.length_toList]
       simp [execOp, ho, ev, Instr.storeAt, Instr.sureAddr, storeVar, sizeOf, typeInfo, h1, hz, hst]
     · cases h
   · cases h
 · rename_i d r g sz i off ys hd hx hy
   split at h
   · rename_i el sz' g' es hg
     split at h
     · rename_i hc
       obtain ⟨rfl, rfl, hsz⟩ := hc
       split at h
       · rename_i q hq
         split at h
         · rename_i cs hcs
           split at h
           · rename_i hle
             simp only [Option.some.injEq] at h
             subst h
             rw [hx] at e
             have hlt : i < es.length := (List.getElem?_eq_some_iff.1 hq).1
             have hb := hget _ _ hg
             obtain ⟨b, hb1, ev⟩ := ref_eptr0 hI e hb
             obtain ⟨b', cap, cur, xs, e1, e2, e3, e4, e5, e6, e7, e8, e9, eG⟩ := row_open hI hb (by omega)
             rw [e1] at hb1
             injection hb1 with hb1
             subst hb1
             obtain ⟨vq, r1, r2, r3⟩ := RepE_at e9 hq
             have hL := Rep_cells r1 hcs
             have hLl : cs.length = sz := by rw [RepL_len hL, Array.length_toList, r2]
             have hY := Rep_cells ey hy
             have hYl : ys.length = (a.eval y).cells.size := by rw [RepL_len hY, Array.length_toList]
             have hin : (i + 1) * sz ≤ es.length * sz := Nat.mul_le_mul_right _ hlt
             have hin2 : es.length * sz ≤ cap * sz := Nat.mul_le_mul_right _ e4
             rw [Nat.succ_mul] at hin
             obtain ⟨inf, z, u, h1, h2, _, _, _, _, _, h8, _⟩ := td_facts hd
             have hst := run_storeCells_at P b' (i * sz + off) el (a.eval y).cells.toList 0 cur w e3 (by simp only [Nat.add_zero, Array.length_toList]; omega) (RepL_one hY)
             simp only [Nat.add_zero] at hst
             have hlt2 : b' < w.heap.size := (Array.getElem?_eq_some_iff.1 e3).1
             obtain ⟨v', j1, j2⟩ := join_rep r1 hcs (cs' := cs.take off ++ ys ++ cs.drop (off + d.size)) (by simp; omega) (RepL_app (RepL_app (RepL_take hL off) hY) (RepL_drop hL (off + d.size)))
             have hv' : v'.cells.size = sz := by
               rw [← Array.length_toList, j2]
               simp [r2]
               omega
             have hxs : xs.take (i * sz) ++ v'.cells.toList ++ xs.drop ((i + 1) * sz) = xs.take (i * sz + off) ++ (a.eval y).cells.toList ++ xs.drop (i * sz + off + (a.eval y).cells.size) := by
               have hvq : vq.cells.toList = (xs.drop (i * sz)).take sz := by
                 apply List.ext_getElem?
                 intro j
                 by_cases hj : j < sz
                 · have hj2 : j < vq.cells.toList.length := by rw [Array.length_toList, r2]; exact hj
                   have := r3 j _ (List.getElem?_eq_getElem hj2)
                   rw [List.getElem?_take, if_pos hj, List.getElem?_drop, this, List.getElem?_eq_getElem hj2]
                 · rw [List.getElem?_eq_none (by rw [Array.length_toList, r2]; omega), List.getElem?_take, if_neg hj]
               rw [j2, hvq]
               have a1 : xs.take (i * sz + off) = xs.take (i * sz) ++ ((xs.drop (i * sz)).take sz).take off := by
                 rw [List.take_take, Nat.min_eq_left (by omega), ← List.take_add]
               have a2 : xs.drop (i * sz + off + (a.eval y).cells.size) = ((xs.drop (i * sz)).take sz).drop (off + d.size) ++ xs.drop ((i + 1) * sz) := by
                 rw [List.drop_take, List.drop_drop, ← hYl, hsz]
                 have := (List.take_append_drop (sz - (off + d.size)) (xs.drop (i * sz + (off + d.size)))).symm
                 rw [List.drop_drop, show i * sz + (off + d.size) + (sz - (off + d.size)) = (i + 1) * sz by rw [Nat.succ_mul]; omega] at this
                 rw [show i * sz + off + d.size = i * sz + (off + d.size) by omega]
                 exact this
               rw [a1, a2]
               simp only [List.append_assoc]
             obtain ⟨q1, q2⟩ := inv_put (v := k.ρ r) (g := g) (y := .row el sz g (es.set i (joinP q (cs.take off ++ ys ++ cs.drop (off + d.size))))) (w' := w.setRow b' (cur.toList.take (i * sz + off) ++ (a.eval y).cells.toList ++ cur.toList.drop (i * sz + off + (a.eval y).cells.toList.length)).toArray) hI hb (Or.inr ⟨eG, rfl⟩)
               ⟨rfl, rfl, rfl, by simp, fun j hj => setRow_other w b' j _ (by omega)⟩ (fun j _ hne => setRow_other w b' j _ (by
                 intro e
                 apply hne
                 show some j = base (k.ρ r)
                 rw [e1, e]; rfl)) (fun j hj => by
                 rw [e1] at hj
                 injection hj with hj
                 subst hj
                 exact ⟨Or.inr (by show base (k.ρ r) = _; rw [e1]; rfl), by simpa using hlt2⟩) (fun hx => by
                 refine ⟨K.put_G _ _ _ _, xs.take (i * sz) ++ v'.cells.toList ++ xs.drop ((i + 1) * sz), ?_, RepE_mono hx _ _ (RepE_set hv' (fun u hu => ?_) j1 e9 hlt)⟩
                 · rw [K.put_ρ, List.length_set]
                   refine ⟨?_, Or.inr ⟨b', cap, _, e1, e2, setRow_heap w b' cur _ el _ e3, e4, e5, ?_, ?_⟩⟩
                   · rw [hxs]
                     simp [e8]
                     omega
                   · simp
                     omega
                   · rw [hxs, ← e7]
                     simp only [Array.length_toList]
                     rw [List.take_append, List.take_append]
                     simp only [List.length_append, List.length_take, Array.length_toList]
                     rw [Nat.min_eq_left (by omega)]
                     rw [List.take_take, List.take_take, Nat.min_eq_right (by omega), Nat.min_eq_left (by omega)]
                     rw [List.take_of_length_le (l := (a.eval y).cells.toList) (by rw [Array.length_toList]; omega)]
                     congr 1
                     rw [List.drop_take]
                 · exact RepL_one (RepL_app (RepL_app (RepL_take hL off) hY) (RepL_drop hL (off + d.size))) u (by rw [← j2]; exact hu))
             refine does_skip (w' := w.setRow b' (cur.toList.take (i * sz + off) ++ (a.eval y).cells.toList ++ cur.toList.drop (i * sz + off + (a.eval y).cells.toList.length)).toArray) ?_ q1 (by unfold setB; unfold setB; exact q2)
             have hz : (a.eval y).cells.size = inf.size := by rw [← h8, ← hsz, hYl]
             simp [execOp, ho, ev, Instr.storeAt, Instr.sureAddr, storeVar, sizeOf, typeInfo, h1, hz, hst]
           · cases h
         · cases h
       · cases h
     · cases h
   · cases h
 · cases h
theorem does_nil {x : Operand} (ho : o.op = .nilCheck x) (h : absOp P Γ.eqT o id look get cr = some out) : Does P Γ k w a s.B o out := by
 unfold absOp at h
 simp only [ho] at h
 have e := hT x
 split at h
 · rename_i r g off hx
   split at h
   · rename_i g' cs bt hg
     split at h
     · rename_i hgg
       subst hgg
       simp only [val, Option.some.injEq] at h
       subst h
       rw [hx] at e
       obtain ⟨b, c, ty, ev, _⟩ := ref_box hI e (hget _ _ hg)
       refine does_value hI (v := a.eval x) ?_ e
       simp [execOp, ho, ev]
     · cases h
   · cases h
 · rename_i cs hx
   simp only [val, Option.some.injEq] at h
   subst h
   rw [hx] at e
   have e' := e
   unfold Rep at e'
   obtain ⟨b, off, vs, ev, _⟩ := e'
   refine does_value hI (v := a.eval x) ?_ e
   simp [execOp, ho, ev]
 · rename_i f cs hx
   simp only [val, Option.some.injEq] at h
   subst h
   rw [hx] at e
   have e' := e
   unfold Rep at e'
   obtain ⟨vs, ev, _⟩ := e'
   refine does_value hI (v := a.eval x) ?_ e
   simp [execOp, ho, ev]
 · rename_i f hx
   simp only [val, Option.some.injEq] at h
   subst h
   rw [hx] at e
   have ev := imm_fn e
   refine does_value hI (v := a.eval x) ?_ e
   simp [execOp, ho, ev]
 · rename_i f cs hx
   simp only [val, Option.some.injEq] at h
   subst h
   rw [hx] at e
   have e' := Rep_imm.1 e
   unfold RepI at e'
   obtain ⟨vs, ev, _⟩ := e'
   refine does_value hI (v := a.eval x) ?_ e
   simp [execOp, ho, ev]
 · cases h
omit hI hT hget in
theorem run_binP {op : BinOp} {t : TypeId} {x y : Operand} {u v : Value} {p q : PV} {i : IV} (hp : Rep k s.B.length w p u) (hq : Rep k s.B.length w q v) (h : binP op p q = some i) :
   ∃ z, ((do eqGuard op t x y u v; binOp op t u v) : Sem Value).run P w = .ok z w ∧ RepI k.Q w i z := by
 unfold binP at h
 split at h
 · rename_i ka za kb zb
   have e1 := imm_int hp
   have e2 := imm_int hq
   subst e1; subst e2
   split at h
   · unfold binShift at h
     split at h
     · split at h
       · cases h
       · rename_i hb
         simp only [Option.some.injEq] at h
         subst h
         refine ⟨_, ?_, by unfold RepI; rfl⟩
         simp only [eqGuard, binOp, Op.shift]
         rw [if_neg hb]
         simp
     · split at h
       · cases h
       · rename_i hb
         simp only [Option.some.injEq] at h
         subst h
         refine ⟨_, ?_, by unfold RepI; rfl⟩
         simp only [eqGuard, binOp, Op.shift]
         rw [if_neg hb]
         simp
     · cases h
   · split at h
     · rename_i hk
       subst hk
       unfold binInt at h
       split at h <;> first
         | (cases h; done)
         | (simp only [Option.some.injEq] at h
            subst h
            refine ⟨_, ?_, by unfold RepI; rfl⟩
            simp [eqGuard, binOp, Op.intArith, Op.intCmp, Op.intBits]
            done)
         | (split at h
            · cases h
            · rename_i hb
              simp only [Option.some.injEq] at h
              subst h
              refine ⟨_, ?_, by unfold RepI; rfl⟩
              simp [eqGuard, binOp, Op.intDiv, hb])
     · cases h
 · rename_i sa sb
   have e1 := imm_str hp
   have e2 := imm_str hq
   subst e1; subst e2
   unfold binStr at h
   have hbeq : (sa.toList == sb.toList) = decide (sa = sb) := by
     rw [Bool.eq_iff_iff, beq_iff_eq, decide_eq_true_eq, Go.ByteArray.toList_eq, Go.ByteArray.toList_eq]
     exact ⟨fun h => by
       have := congrArg List.toArray h
       cases sa; cases sb
       simp_all, fun h => by rw [h]⟩
   have hlss : Op.bytesLess sa.toList sb.toList = lessB sa sb := by rw [Go.ByteArray.toList_eq, Go.ByteArray.toList_eq]; rfl
   split at h
   · simp only [Option.some.injEq] at h
     subst h
     exact ⟨.bool (decide (sa = sb)), by simp [eqGuard, binOp, Op.stringOp, hbeq], by unfold RepI; rfl⟩
   · simp only [Option.some.injEq] at h
     subst h
     exact ⟨.bool (!decide (sa = sb)), by simp [eqGuard, binOp, Op.stringOp, hbeq], by unfold RepI; rfl⟩
   · split at h
     · rename_i hle
       simp only [Option.some.injEq] at h
       subst h
       unfold most at hle
       refine ⟨_, ?_, by unfold RepI; rfl⟩
       have : ¬ ((sa.size + sb.size : Nat) : Int) > IntKind.i64.max := by rw [IntKind.max_i64]; omega
       simp only [eqGuard, binOp, Op.stringOp]
       rw [if_neg this]
       simp
     · cases h
   · simp only [Option.some.injEq] at h
     subst h
     exact ⟨.bool (lessB sa sb), by simp [eqGuard, binOp, Op.stringOp, hlss], by unfold RepI; rfl⟩
   · simp only [Option.some.injEq] at h
     subst h
     exact ⟨.bool (lessB sa sb || decide (sa = sb)), by simp [eqGuard, binOp, Op.stringOp, hlss, hbeq], by unfold RepI; rfl⟩
   · simp only [Option.some.injEq] at h
     subst h
     exact ⟨.bool (!(lessB sa sb || decide (sa = sb))), by simp [eqGuard, binOp, Op.stringOp, hlss, hbeq], by unfold RepI; rfl⟩
   · simp only [Option.some.injEq] at h
     subst h
     exact ⟨.bool (!lessB sa sb), by simp [eqGuard, binOp, Op.stringOp, hlss], by unfold RepI; rfl⟩
   · cases h
 · cases h
omit hI hT hget in
theorem imm_np {v : Value} (h : Rep k s.B.length w (.imm .np) v) : v = .pointer none := by rw [Rep_imm] at h; unfold RepI at h; exact h
omit hI hT hget in
theorem ptr_of {P : Program} {u : TypeDesc} {e : TypeId} (hk : kindOf P u = some (.ptr e)) : u = .pointer e := by
 unfold kindOf at hk
 split at hk <;> first | (injection hk with hk; injection hk with hk; subst hk; rfl) | (cases hk; done) | (rename_i n e'; cases hq : P.info? e' <;> rw [hq] at hk <;> cases hk; done) | skip
 · rename_i fields
   cases hq : fieldsOf P fields.toList with
   | none => rw [hq] at hk; cases hk
   | some gs => rw [hq] at hk; cases hk
omit hI hT hget in
theorem imm_nf {v : Value} (h : Rep k s.B.length w (.imm .nf) v) : v = .nilFunc := by rw [Rep_imm] at h; unfold RepI at h; exact h
omit hI hT hget in
theorem imm_clo {f : FuncId} {cs : List PV} {v : Value} (h : Rep k s.B.length w (.clo f cs) v) : ∃ vs : List Value, v = .func (.func f) #[] vs.toArray := by unfold Rep at h; obtain ⟨vs, e, _⟩ := h; exact ⟨vs, e⟩
omit hI hT hget in
theorem run_fn_nilIn {P : Program} {t : TypeId} {a b : Array TypeId} {c : Bool} (hu : P.underlying t = some (.func a b c)) (d : Nat) (f : Fn) (x y : Array Value) (w : World) : (Op.equalIn (d + 1) t (.func f x y) .nilFunc).run P w = .ok false w := by
 simp [Op.equalIn, run_underlying hu]
omit hI hT hget in
theorem run_nil_nilIn {P : Program} {t : TypeId} {a b : Array TypeId} {c : Bool} (hu : P.underlying t = some (.func a b c)) (d : Nat) (w : World) : (Op.equalIn (d + 1) t .nilFunc .nilFunc).run P w = .ok true w := by
 simp [Op.equalIn, run_underlying hu]
omit hI hT hget in
theorem run_fn_nil {P : Program} {t : TypeId} {a b : Array TypeId} {c : Bool} (hu : P.underlying t = some (.func a b c)) (f : Fn) (x y : Array Value) (w : World) : (Op.equal t (.func f x y) .nilFunc).run P w = .ok false w := run_fn_nilIn hu 9999 f x y w
omit hI hT hget in
theorem run_nil_nil {P : Program} {t : TypeId} {a b : Array TypeId} {c : Bool} (hu : P.underlying t = some (.func a b c)) (w : World) : (Op.equal t .nilFunc .nilFunc).run P w = .ok true w := run_nil_nilIn hu 9999 w
omit hI hT hget in
theorem run_sl_nilIn {P : Program} {t e : TypeId} (hu : P.underlying t = some (.slice e)) (d : Nat) (a : Addr) (n c : Nat) (w : World) : (Op.equalIn (d + 1) t (.slice (some a) n c) (.slice none 0 0)).run P w = .ok false w := by
 simp [Op.equalIn, run_underlying hu]
omit hI hT hget in
theorem run_no_nilIn {P : Program} {t e : TypeId} (hu : P.underlying t = some (.slice e)) (d : Nat) (w : World) : (Op.equalIn (d + 1) t (.slice none 0 0) (.slice none 0 0)).run P w = .ok true w := by
 simp [Op.equalIn, run_underlying hu]
omit hI hT hget in
theorem run_sl_nil {P : Program} {t e : TypeId} (hu : P.underlying t = some (.slice e)) (a : Addr) (n c : Nat) (w : World) : (Op.equal t (.slice (some a) n c) (.slice none 0 0)).run P w = .ok false w := run_sl_nilIn hu 9999 a n c w
omit hI hT hget in
theorem run_no_nil {P : Program} {t e : TypeId} (hu : P.underlying t = some (.slice e)) (w : World) : (Op.equal t (.slice none 0 0) (.slice none 0 0)).run P w = .ok true w := run_no_nilIn hu 9999 w
omit hI hT hget in
theorem imm_nil {v : Value} (h : Rep k s.B.length w (.imm .nil) v) : v = .slice none 0 0 := by rw [Rep_imm] at h; unfold RepI at h; exact h
omit hI hT hget in
theorem fn_of {P : Program} {u : TypeDesc} (hk : kindOf P u = some .fn) : ∃ a b c, u = .func a b c := by
 unfold kindOf at hk
 split at hk <;> first | exact ⟨_, _, _, rfl⟩ | (cases hk; done) | (rename_i n e'; cases hq : P.info? e' <;> rw [hq] at hk <;> cases hk; done) | skip
 · rename_i fields
   cases hq : fieldsOf P fields.toList with
   | none => rw [hq] at hk; cases hk
   | some gs => rw [hq] at hk; cases hk
omit hI hT hget in
def EqsOK (P : Program) (T : TypeId → Option (List CK)) : Prop := ∀ t ks, T t = some ks → ∀ (w : World) (x y : Operand) (is js : List IV) (xs ys : List Value) (Q : Nat → Prop), shapeB is ks = true → shapeB js ks = true → RepC Q w is xs → RepC Q w js ys →
 (eqGuard .eql t x y (.agg xs.toArray) (.agg ys.toArray)).run P w = .ok () w ∧ (eqGuard .neq t x y (.agg xs.toArray) (.agg ys.toArray)).run P w = .ok () w ∧ (Op.equal t (.agg xs.toArray) (.agg ys.toArray)).run P w = .ok (eqC is js) w ∧ ∀ em : Bool, (Instr.checkKey em 10000 t (.agg xs.toArray)).run P w = .ok () w
theorem does_bin {op : BinOp} {t ty : TypeId} {x y : Operand} (hX : EqsOK P Γ.eqT) (ho : o.op = .binOp op t x y ty) (h : absOp P Γ.eqT o id look get cr = some out) : Does P Γ k w a s.B o out := by
 unfold absOp at h
 simp only [ho] at h
 split at h
 · rename_i is js ks hx hy ht
   have e1 := hT x
   have e2 := hT y
   rw [hx] at e1
   rw [hy] at e2
   obtain ⟨xs, v1, c1⟩ := RepI_agg.1 (Rep_imm.1 e1)
   obtain ⟨ys, v2, c2⟩ := RepI_agg.1 (Rep_imm.1 e2)
   split at h
   · rename_i hs
     obtain ⟨g1, g2, g3⟩ := hX t ks ht w x y is js xs ys k.Q hs.1 hs.2 c1 c2
     split at h
     · simp only [val, Option.some.injEq] at h
       subst h
       refine does_value hI (v := .bool (eqC is js)) ?_ mk_bool
       simp [execOp, ho, v1, v2, g1, binOp, g3]
     · simp only [val, Option.some.injEq] at h
       subst h
       refine does_value hI (v := .bool (!eqC is js)) ?_ mk_bool
       simp [execOp, ho, v1, v2, g2, binOp, g3]
     · cases h
   · cases h
 · rename_i _ ba bb hx hy
   have e1 := hT x
   have e2 := hT y
   rw [hx] at e1
   rw [hy] at e2
   have v1 := imm_bool e1
   have v2 := imm_bool e2
   split at h
   · rename_i ag sz zs hd
     obtain ⟨_, _, u, _, hu, _, _, hk, _⟩ := td_facts hd
     have hub : u = .bool := by
       unfold kindOf at hk
       split at hk <;> first | (simp_all; done) | (rename_i n e'; cases hq : P.info? e' <;> rw [hq] at hk <;> cases hk)
     subst hub
     have hn : (eqGuard op t x y (.bool ba) (.bool bb)).run P w = .ok () w := by simp [eqGuard]
     split at h
     · simp only [val, Option.some.injEq] at h
       subst h
       refine does_value hI (v := .bool (ba == bb)) ?_ mk_bool
       simp [execOp, ho, v1, v2, hn, run_eql_bool w t ba bb hu]
     · simp only [val, Option.some.injEq] at h
       subst h
       refine does_value hI (v := .bool (!(ba == bb))) ?_ mk_bool
       simp [execOp, ho, v1, v2, hn, binOp, run_equal_bool w t ba bb hu]
     · cases h
   · cases h
 · rename_i _ r g off hx hy
   have e1 := hT x
   have e2 := hT y
   rw [hx] at e1
   rw [hy] at e2
   have v2 := imm_np e2
   split at h
   · rename_i ag sz zs g' cs hd hb
     obtain ⟨_, _, u, _, hu, _, _, hk, _⟩ := td_facts hd
     obtain rfl := ptr_of hk
     have hp : P.underlying t = some (.pointer (P.pointee t)) := by simp [Program.pointee, hu]
     split at h
     · rename_i hgg
       subst hgg
       obtain ⟨b, c, ty, v1, _⟩ := ref_box hI e1 (hget _ _ hb)
       have hn : (eqGuard op t x y (.pointer (some ⟨b, off, none⟩)) (.pointer none)).run P w = .ok () w := by simp [eqGuard]
       have he := run_equal_pointer_nil (P := P) w t (some ⟨b, off, none⟩) hp
       split at h
       · simp only [val, Option.some.injEq] at h
         subst h
         refine does_value hI (v := .bool false) ?_ mk_bool
         simp [execOp, ho, v1, v2, hn, binOp, he]
       · simp only [val, Option.some.injEq] at h
         subst h
         refine does_value hI (v := .bool true) ?_ mk_bool
         simp [execOp, ho, v1, v2, hn, binOp, he]
       · cases h
     · cases h
   · cases h
 · rename_i _ hx hy
   have e1 := hT x
   have e2 := hT y
   rw [hx] at e1
   rw [hy] at e2
   have v1 := imm_np e1
   have v2 := imm_np e2
   split at h
   · rename_i ag sz zs hd
     obtain ⟨_, _, u, _, hu, _, _, hk, _⟩ := td_facts hd
     obtain rfl := ptr_of hk
     have hn : (eqGuard op t x y (.pointer none) (.pointer none)).run P w = .ok () w := by simp [eqGuard]
     have hp : P.underlying t = some (.pointer (P.pointee t)) := by simp [Program.pointee, hu]
     have he := run_equal_pointer_nil (P := P) w t none hp
     split at h
     · simp only [val, Option.some.injEq] at h
       subst h
       refine does_value hI (v := .bool true) ?_ mk_bool
       simp [execOp, ho, v1, v2, hn, binOp, he]
     · simp only [val, Option.some.injEq] at h
       subst h
       refine does_value hI (v := .bool false) ?_ mk_bool
       simp [execOp, ho, v1, v2, hn, binOp, he]
     · cases h
   · cases h
 · rename_i _ f cs hx hy
   have e1 := hT x
   have e2 := hT y
   rw [hx] at e1
   rw [hy] at e2
   obtain ⟨vs, v1⟩ := imm_clo e1
   have v2 := imm_nf e2
   split at h
   · rename_i ag sz zs hd
     obtain ⟨_, _, u, _, hu, _, _, hk, _⟩ := td_facts hd
     obtain ⟨ps, rs, va, rfl⟩ := fn_of hk
     have hn : (eqGuard op t x y (.func (.func f) #[] vs.toArray) .nilFunc).run P w = .ok () w := by simp [eqGuard]
     have he : (Op.equal t (.func (.func f) #[] vs.toArray) .nilFunc).run P w = .ok false w := run_fn_nil hu _ _ _ w
     split at h
     · simp only [val, Option.some.injEq] at h
       subst h
       refine does_value hI (v := .bool false) ?_ mk_bool
       simp [execOp, ho, v1, v2, hn, binOp, he]
     · simp only [val, Option.some.injEq] at h
       subst h
       refine does_value hI (v := .bool true) ?_ mk_bool
       simp [execOp, ho, v1, v2, hn, binOp, he]
     · cases h
   · cases h
 · rename_i _ f hx hy
   have e1 := hT x
   have e2 := hT y
   rw [hx] at e1
   rw [hy] at e2
   have v1 := imm_fn e1
   have v2 := imm_nf e2
   split at h
   · rename_i ag sz zs hd
     obtain ⟨_, _, u, _, hu, _, _, hk, _⟩ := td_facts hd
     obtain ⟨ps, rs, va, rfl⟩ := fn_of hk
     have hn : (eqGuard op t x y (.func (.func f) #[] #[]) .nilFunc).run P w = .ok () w := by simp [eqGuard]
     have he : (Op.equal t (.func (.func f) #[] #[]) .nilFunc).run P w = .ok false w := run_fn_nil hu _ _ _ w
     split at h
     · simp only [val, Option.some.injEq] at h
       subst h
       refine does_value hI (v := .bool false) ?_ mk_bool
       simp [execOp, ho, v1, v2, hn, binOp, he]
     · simp only [val, Option.some.injEq] at h
       subst h
       refine does_value hI (v := .bool true) ?_ mk_bool
       simp [execOp, ho, v1, v2, hn, binOp, he]
     · cases h
   · cases h
 · rename_i _  hx hy
   have e1 := hT x
   have e2 := hT y
   rw [hx] at e1
   rw [hy] at e2
   have v1 := imm_nf e1
   have v2 := imm_nf e2
   split at h
   · rename_i ag sz zs hd
     obtain ⟨_, _, u, _, hu, _, _, hk, _⟩ := td_facts hd
     obtain ⟨ps, rs, va, rfl⟩ := fn_of hk
     have hn : (eqGuard op t x y .nilFunc .nilFunc).run P w = .ok () w := by simp [eqGuard]
     have he : (Op.equal t .nilFunc .nilFunc).run P w = .ok true w := run_nil_nil hu w
     split at h
     · simp only [val, Option.some.injEq] at h
       subst h
       refine does_value hI (v := .bool true) ?_ mk_bool
       simp [execOp, ho, v1, v2, hn, binOp, he]
     · simp only [val, Option.some.injEq] at h
       subst h
       refine does_value hI (v := .bool false) ?_ mk_bool
       simp [execOp, ho, v1, v2, hn, binOp, he]
     · cases h
   · cases h
 · rename_i _ hx hy
   have e1 := hT x
   have e2 := hT y
   rw [hx] at e1
   rw [hy] at e2
   have v1 := imm_nil e1
   have v2 := imm_nil e2
   split at h
   · rename_i ag sz zs el esz eb hd
     obtain ⟨_, _, u, _, hu, _, _, hk, _⟩ := td_facts hd
     obtain ⟨_, rfl, _⟩ := slice_of hk
     have hn : (eqGuard op t x y (.slice none 0 0) (.slice none 0 0)).run P w = .ok () w := by simp [eqGuard]
     have he := run_no_nil (P := P) hu w
     split at h
     · simp only [val, Option.some.injEq] at h
       subst h
       refine does_value hI (v := .bool true) ?_ mk_bool
       simp [execOp, ho, v1, v2, hn, binOp, he]
     · simp only [val, Option.some.injEq] at h
       subst h
       refine does_value hI (v := .bool false) ?_ mk_bool
       simp [execOp, ho, v1, v2, hn, binOp, he]
     · cases h
   · cases h
 · rename_i _ sz0 i0 is0 hx hy
   have e1 := hT x
   have e2 := hT y
   rw [hx] at e1
   rw [hy] at e2
   have v2 := imm_nil e2
   rw [Rep_imm] at e1
   unfold RepI at e1
   obtain ⟨ad, c0, v1, _, _, hne⟩ := e1
   obtain ⟨b0, o0, hb0, _⟩ := hne (by simp)
   subst hb0
   obtain ⟨n0, v1⟩ : ∃ n0, a.eval x = .slice (some ⟨b0, o0, none⟩) n0 c0 := ⟨_, v1⟩
   split at h
   · rename_i ag sz zs el esz eb hd
     obtain ⟨_, _, u, _, hu, _, _, hk, _⟩ := td_facts hd
     obtain ⟨_, rfl, _⟩ := slice_of hk
     have hn : (eqGuard op t x y (.slice (some ⟨b0, o0, none⟩) n0 c0) (.slice none 0 0)).run P w = .ok () w := by simp [eqGuard]
     have he := run_sl_nil (P := P) hu ⟨b0, o0, none⟩ n0 c0 w
     split at h
     · simp only [val, Option.some.injEq] at h
       subst h
       refine does_value hI (v := .bool false) ?_ mk_bool
       simp [execOp, ho, v1, v2, hn, binOp, he]
     · simp only [val, Option.some.injEq] at h
       subst h
       refine does_value hI (v := .bool true) ?_ mk_bool
       simp [execOp, ho, v1, v2, hn, binOp, he]
     · cases h
   · cases h
 · rename_i _ r g hx hy
   have e1 := hT x
   have e2 := hT y
   rw [hx] at e1
   rw [hy] at e2
   have v2 := imm_nil e2
   split at h
   · rename_i ag sz zs el esz eb e' sz' g' p0 ps0 hd hb
     obtain ⟨_, _, u, _, hu, _, _, hk, _⟩ := td_facts hd
     obtain ⟨_, rfl, _⟩ := slice_of hk
     split at h
     · rename_i hgg
       subst hgg
       obtain ⟨xs, hvr, hown, _, _⟩ := ref_row hI e1 (hget _ _ hb)
       obtain ⟨b0, n0, c0, v1⟩ : ∃ b0 n0 c0, a.eval x = .slice (some ⟨b0, 0, none⟩) n0 c0 := by
         rcases hown.2 with ⟨_, h0⟩ | ⟨b0, c0, _, e0, _⟩
         · simp at h0
         · exact ⟨b0, _, c0, hvr.trans e0⟩
       have hn : (eqGuard op t x y (.slice (some ⟨b0, 0, none⟩) n0 c0) (.slice none 0 0)).run P w = .ok () w := by simp [eqGuard]
       have he := run_sl_nil (P := P) hu ⟨b0, 0, none⟩ n0 c0 w
       split at h
       · simp only [val, Option.some.injEq] at h
         subst h
         refine does_value hI (v := .bool false) ?_ mk_bool
         simp [execOp, ho, v1, v2, hn, binOp, he]
       · simp only [val, Option.some.injEq] at h
         subst h
         refine does_value hI (v := .bool true) ?_ mk_bool
         simp [execOp, ho, v1, v2, hn, binOp, he]
       · cases h
     · cases h
   · cases h
 · cases hb : binP op (look x) (look y) with
   | none => rw [hb] at h; cases h
   | some i =>
     rw [hb] at h
     simp only [Option.bind_some, val, Option.some.injEq] at h
     subst h
     obtain ⟨z, hz, hr⟩ := run_binP (P := P) (t := t) (x := x) (y := y) (hT x) (hT y) hb
     refine does_value hI (v := z) ?_ (Rep_imm.2 hr)
     unfold execOp
     simp only [ho, Sem.run_bind] at hz ⊢
     rw [hz]
     rfl
omit hget in
theorem does_un {op : UnOp} {t : TypeId} {x : Operand} (ho : o.op = .unOp op t x) (h : absOp P Γ.eqT o id look get cr = some out) : Does P Γ k w a s.B o out := by
 unfold absOp at h
 simp only [ho] at h
 have e := hT x
 split at h
 · rename_i b hx
   simp only [val, Option.some.injEq] at h
   subst h
   rw [hx] at e
   have ev := imm_bool e
   refine does_value hI (v := .bool (!b)) ?_ mk_bool
   simp [execOp, ho, ev, Op.unary]
 · rename_i kk b hx
   simp only [val, Option.some.injEq] at h
   subst h
   rw [hx] at e
   have ev := imm_int e
   refine does_value hI (v := .int kk (kk.wrap (0 - b))) ?_ mk_int
   simp [execOp, ho, ev, Op.unary, Op.intArith]
 · cases h
theorem does_fieldAddr {t : TypeId} {x : Operand} {f : Nat} (ho : o.op = .fieldAddr t x f) (h : absOp P Γ.eqT o id look get cr = some out) : Does P Γ k w a s.B o out := by
 unfold absOp at h
 simp only [ho] at h
 have e := hT x
 have fld : ∀ {ag sz zs fs fo fz fa}, tdOf P t = some ⟨ag, sz, zs, .struct fs⟩ → fs[f]? = some (fo, fz, fa) → ∃ (fields : Array Field) (fd : Field) (i : TypeInfo), P.underlying t = some (.struct fields) ∧ fields[f]? = some fd ∧ fd.offset = fo ∧ P.info? fd.type = some i ∧ i.size = fz := by
   intro ag sz zs fs fo fz fa hd hf
   obtain ⟨i, z, u, _, h2, _, _, h5, _⟩ := td_facts hd
   exact field_of h2 h5 hf
 split at h
 · rename_i ag sz zs fs r g off hd hx
   split at h
   · rename_i fo fz fa hf
     split at h
     · rename_i g' cs bt hg
       split at h
       · rename_i hz
         obtain ⟨hz, rfl⟩ := hz
         simp only [val, Option.some.injEq] at h
         subst h
         rw [hx] at e
         obtain ⟨fields, fd, i, h1, h2, h3, h4, h5⟩ := fld hd hf
         obtain ⟨b, c, ty, ev, hρ, hG, _⟩ := ref_box hI e (hget _ _ hg)
         refine does_value hI (v := .pointer (some ⟨b, off + fo, none⟩)) ?_ ?_
         · have hadd : (⟨b, off, none⟩ : Addr).add fd.offset = ⟨b, off + fo, none⟩ := by rw [h3]; unfold Addr.add; split <;> simp_all
           simp [execOp, ho, ev, Instr.fieldAt, run_underlying h1, h2, Instr.sureAddr, fieldPlace, sizeOf, typeInfo, h4, h5, hz, hadd]
         · unfold Rep at e ⊢
           exact ⟨rfl, e.2.1, e.2.2.1, fun _ => ⟨b, by rw [hρ]; rfl, rfl⟩⟩
       · cases h
     · cases h
   · cases h
 · rename_i ag sz zs fs r g esz i off hd hx
   split at h
   · rename_i fo fz fa hf
     split at h
     · rename_i el sz' g' es hg
       split at h
       · rename_i hz
         obtain ⟨hz, rfl⟩ := hz
         simp only [val, Option.some.injEq] at h
         subst h
         rw [hx] at e
         obtain ⟨fields, fd, inf, h1, h2, h3, h4, h5⟩ := fld hd hf
         obtain ⟨b, hb1, ev⟩ := ref_eptr0 hI e (hget _ _ hg)
         refine does_value hI (v := .pointer (some ⟨b, i * esz + (off + fo), none⟩)) ?_ ?_
         · have hadd : (⟨b, i * esz + off, none⟩ : Addr).add fd.offset = ⟨b, i * esz + (off + fo), none⟩ := by
             rw [h3]
             unfold Addr.add
             split
             · rename_i h0; subst h0; rfl
             · rw [Nat.add_assoc]
           simp [execOp, ho, ev, Instr.fieldAt, run_underlying h1, h2, Instr.sureAddr, fieldPlace, sizeOf, typeInfo, h4, h5, hz, hadd]
         · unfold Rep at e ⊢
           exact ⟨rfl, e.2.1, e.2.2.1, fun _ => ⟨b, hb1, rfl⟩⟩
       · cases h
     · cases h
   · cases h
 · rename_i ag sz zs fs cs hd hx
   split at h
   · rename_i fo fz fa hf
     split at h
     · cases h
     · rename_i hz
       simp only [val, Option.some.injEq] at h
       subst h
       rw [hx] at e
       obtain ⟨fields, fd, i, h1, h2, h3, h4, h5⟩ := fld hd hf
       unfold Rep at e
       obtain ⟨b, off, vs, ev, hq, hC, hcell⟩ := e
       refine does_value hI (v := .pointer (some ⟨b, off + fo, none⟩)) ?_ ?_
       · have hadd : (⟨b, off, none⟩ : Addr).add fd.offset = ⟨b, off + fo, none⟩ := by rw [h3]; unfold Addr.add; split <;> simp_all
         simp [execOp, ho, ev, Instr.fieldAt, run_underlying h1, h2, Instr.sureAddr, fieldPlace, sizeOf, typeInfo, h4, h5, hz, hadd]
       · unfold Rep
         exact ⟨b, off + fo, vs.drop fo, rfl, hq, RepC_drop hC fo, fun j u hj => by rw [Nat.add_assoc]; rw [List.getElem?_drop] at hj; exact hcell _ u hj⟩
   · cases h
 · cases h
omit hI hT hget in
theorem run_part {t : TypeId} {i : TypeInfo} {u : TypeDesc} (hi : P.info? t = some i) (hu : P.underlying t = some u) {cs : List IV} {vs : List Value} {off : Nat} {p : IV} (hC : RepC k.Q w cs vs) (hp : partI cs off i.size (aggD u) = some p) :
   ∃ v, (part t vs.toArray off).run P w = .ok v w ∧ RepI k.Q w p v := by
 unfold partI at hp
 unfold part
 rw [Sem.run_bind, run_isAgg hu, Result.andThen_ok]
 cases ha : aggD u with
 | true =>
   rw [ha] at hp
   simp only [if_true] at hp ⊢
   split at hp
   · rename_i hle
     simp only [Option.some.injEq] at hp
     subst hp
     refine ⟨.agg ((vs.drop off).take i.size).toArray, ?_, RepI_agg.2 ⟨_, rfl, RepC_take (RepC_drop hC off) _⟩⟩
     rw [Sem.run_bind, run_sizeOf hi, Result.andThen_ok]
     simp only [Sem.run_pure]
     congr 2
     apply Array.ext'
     simp [List.extract_eq_take_drop]
   · cases hp
 | false =>
   rw [ha] at hp
   simp only [Bool.false_eq_true, if_false] at hp ⊢
   obtain ⟨v, hv, _, hrep⟩ := RepC_at hC off p hp
   refine ⟨v, ?_, hrep⟩
   simp [hv]
omit hget in
theorem does_field {t : TypeId} {x : Operand} {f : Nat} (ho : o.op = .field t x f) (h : absOp P Γ.eqT o id look get cr = some out) : Does P Γ k w a s.B o out := by
 unfold absOp at h
 simp only [ho] at h
 have e := hT x
 split at h
 · rename_i ag sz zs fs cs hd hx
   split at h
   · rename_i fo fz fa hf
     cases hp : partI cs fo fz fa with
     | none => rw [hp] at h; cases h
     | some p =>
       rw [hp] at h
       simp only [Option.bind_some, val, Option.some.injEq] at h
       subst h
       rw [hx] at e
       obtain ⟨i, z, u, _, h2, _, _, h5, _⟩ := td_facts hd
       obtain ⟨fields, fd, i', u', g1, g2, g3, g4, g5, g6, g7⟩ := field_of' h2 h5 hf
       obtain ⟨vs, ev, hC⟩ := RepI_agg.1 (Rep_imm.1 e)
       subst g5
       subst g7
       obtain ⟨v, hv, hr⟩ := run_part (P := P) (w := w) g4 g6 hC hp
       refine does_value hI (v := v) ?_ (Rep_imm.2 hr)
       simp [execOp, ho, ev, Instr.field, run_underlying g1, g2, asAgg, g3, hv]
   · cases h
 · rename_i ag sz zs fs ps hd hx
   split at h
   · rename_i fo fz hf
     cases hp : ps[fo]? with
     | none => rw [hp] at h; cases h
     | some p =>
       rw [hp] at h
       simp only [Option.bind_some, val, Option.some.injEq] at h
       subst h
       rw [hx] at e
       obtain ⟨i, z, u, _, h2, _, _, h5, _⟩ := td_facts hd
       obtain ⟨fields, fd, i', u', g1, g2, g3, g4, g5, g6, g7⟩ := field_of' h2 h5 hf
       obtain ⟨vs, ev, hC⟩ := Rep_agg.1 e
       obtain ⟨v, hv, _, hr⟩ := RepL_at hC _ p hp
       rw [← g3] at hv
       have hpart : (part fd.type vs.toArray fd.offset).run P w = .ok v w := by
         unfold part
         rw [Sem.run_bind, run_isAgg g6, Result.andThen_ok, g7]
         simp [hv]
       refine does_value hI (v := v) ?_ hr
       rw [g3] at hpart
       simp [execOp, ho, ev, Instr.field, run_underlying g1, g2, asAgg, g3, hpart]
   · cases h
 · cases h
omit hget in
theorem does_extract {x : Operand} {j : Nat} (ho : o.op = .extract x j) (h : absOp P Γ.eqT o id look get cr = some out) : Does P Γ k w a s.B o out := by
 unfold absOp at h
 simp only [ho] at h
 have e := hT x
 split at h
 · rename_i cs hx
   cases hc : cs[j]? with
   | none => rw [hc] at h; cases h
   | some p =>
     rw [hc] at h
     simp only [Option.bind_some, val, Option.some.injEq] at h
     subst h
     rw [hx] at e
     unfold Rep at e
     obtain ⟨vs, ev, hl⟩ := e
     obtain ⟨v, hv, hr⟩ := RepT_at hl j p hc
     refine does_value hI (v := v) ?_ hr
     simp [execOp, ho, ev, Instr.extract, hv]
 · cases h
omit hI hT hget in
theorem row_at {Q : Nat → Prop} {sz b : Nat} : ∀ {es : List IV} {off j : Nat} {e : IV}, RepR Q w sz b off es → es[j]? = some e → ∃ v, RepI Q w e v ∧ v.cells.size = sz ∧ ∀ q u, v.cells[q]? = some u → w.cell? ⟨b, off + j * sz + q, none⟩ = some u
 | [], _, _, _, _, h => by simp at h
 | x :: es, off, 0, e, hr, h => by
   unfold RepR at hr
   simp only [List.getElem?_cons_zero, Option.some.injEq] at h
   subst h
   simpa using hr.1
 | x :: es, off, j + 1, e, hr, h => by
   unfold RepR at hr
   obtain ⟨v, h1, h2, h3⟩ := row_at hr.2 (by simpa using h)
   refine ⟨v, h1, h2, fun q u hq => ?_⟩
   have := h3 q u hq
   rw [show off + (j + 1) * sz + q = off + sz + j * sz + q by rw [Nat.succ_mul]; omega]
   exact this
omit hI hT hget in
theorem RepC_cells {Q : Nat → Prop} {e : IV} {v : Value} (h : RepI Q w e v) : RepC Q w (cellsI e) v.cells.toList := by
 have h1 : Rep ⟨fun _ => undef, fun _ => 0, Q⟩ 0 w (.imm e) v := Rep_imm.2 h
 have h2 := Rep_cells h1 (cs := (cellsI e).map .imm) rfl
 have key : ∀ (cs : List IV) (vs : List Value), RepL ⟨fun _ => undef, fun _ => 0, Q⟩ 0 w (cs.map .imm) vs → RepC Q w cs vs := by
   intro cs
   induction cs with
   | nil => intro vs h; unfold RepC; simpa [RepL] using h
   | cons c cs ih =>
     intro vs h
     simp only [List.map_cons] at h
     unfold RepL at h
     obtain ⟨v, r, e, h0, h1, h2⟩ := h
     unfold RepC
     exact ⟨v, r, e, h0, Rep_imm.1 h1, ih r h2⟩
 exact key _ _ h2
theorem does_indexAddr {t : TypeId} {x ix : Operand} (ho : o.op = .indexAddr t x ix) (h : absOp P Γ.eqT o id look get cr = some out) : Does P Γ k w a s.B o out := by
 unfold absOp at h
 simp only [ho] at h
 have e := hT x
 have ei := hT ix
 split at h
 · rename_i ag sz0 zs el sz bb sz' es kk i hd hx hix
   split at h
   · rename_i hc
     obtain ⟨rfl, hi0⟩ := hc
     cases hj : es[i.toNat]? with
     | none => rw [hj] at h; cases h
     | some p =>
       rw [hj] at h
       simp only [Option.bind_some, val, Option.some.injEq] at h
       subst h
       rw [hx] at e
       rw [hix] at ei
       have evi := imm_int ei
       have e := Rep_imm.1 e
       unfold RepI at e
       obtain ⟨ad, c, ev, h1, h2, h3⟩ := e
       have hlt : i.toNat < es.length := (List.getElem?_eq_some_iff.1 hj).1
       obtain ⟨b, off, rfl, hq, hR⟩ := h3 (by omega)
       obtain ⟨v, g1, g2, g3⟩ := row_at hR hj
       obtain ⟨inf, z, u, q1, q2, _, _, q5, _⟩ := td_facts hd
       obtain ⟨inf2, q6, q7, q8⟩ := slice_of q5
       refine does_value hI (v := .pointer (some ⟨b, off + i.toNat * sz, none⟩)) ?_ ?_
       · have hadd : (⟨b, off, none⟩ : Addr).add (i.toNat * sz) = ⟨b, off + i.toNat * sz, none⟩ := by unfold Addr.add; split <;> simp_all
         have hin : 0 ≤ i ∧ i < (es.length : Int) := by omega
         rw [q6] at q2
         simp [execOp, ho, ev, evi, Instr.indexAt, asIntOf, run_underlying q2, sizeOf, typeInfo, q7, q8, hin, hadd]
       · unfold Rep
         exact ⟨b, _, v.cells.toList, rfl, hq, RepC_cells g1, fun q u hq => g3 q u (by simpa using hq)⟩
   · cases h
 · rename_i ag sz0 zs el sz bb r g kk i hd hx hix
   split at h
   · rename_i el' sz' g' es hg
     split at h
     · rename_i hc
       obtain ⟨rfl, rfl, hi0, hi1⟩ := hc
       simp only [val, Option.some.injEq] at h
       subst h
       rw [hx] at e
       rw [hix] at ei
       have evi := imm_int ei
       obtain ⟨_, ev, _⟩ := ref_row hI e (hget _ _ hg)
       obtain ⟨b, cap, cur, xs, e1, _⟩ := row_open hI (hget _ _ hg) (by omega)
       rw [e1] at ev
       obtain ⟨inf, z, u, q1, q2, _, _, q5, _⟩ := td_facts hd
       obtain ⟨inf2, q6, q7, q8⟩ := slice_of q5
       refine does_value hI (v := .pointer (some ⟨b, i.toNat * sz + 0, none⟩)) ?_ ?_
       · have hadd : (⟨b, 0, none⟩ : Addr).add (i.toNat * sz) = ⟨b, i.toNat * sz + 0, none⟩ := by unfold Addr.add; split <;> simp_all
         have hin : 0 ≤ i ∧ i < (es.length : Int) := by omega
         rw [q6] at q2
         simp only [Nat.add_zero] at hadd
         simp [execOp, ho, ev, evi, Instr.indexAt, asIntOf, run_underlying q2, sizeOf, typeInfo, q7, q8, hin, hadd]
       · unfold Rep at e ⊢
         exact ⟨rfl, e.2.1, e.2.2.1, fun _ => ⟨b, by rw [e1]; rfl, rfl⟩⟩
     · cases h
   · cases h
 · rename_i ag sz0 zs el sz bb r g sz' q m kk i hd hx hix
   split at h
   · rename_i el' sz2 g' es hg
     split at h
     · rename_i hc
       obtain ⟨rfl, rfl, rfl, hi0, hi1⟩ := hc
       simp only [val, Option.some.injEq] at h
       subst h
       rw [hx] at e
       rw [hix] at ei
       have evi := imm_int ei
       have hb := hget _ _ hg
       obtain ⟨a', c, ad, cap, ev, g1, g2, g3, hG, g5, g4⟩ := ref_sub hI e hb
       obtain ⟨b, hb1, ha'⟩ := g4 (by omega)
       subst ha'
       subst hb1
       obtain ⟨inf, z, u, q1, q2, _, _, q5, _⟩ := td_facts hd
       obtain ⟨inf2, q6, q7, q8⟩ := slice_of q5
       refine does_value hI (v := .pointer (some ⟨b, (q + i.toNat) * sz, none⟩)) ?_ ?_
       · have hadd : (⟨b, q * sz, none⟩ : Addr).add (i.toNat * sz) = ⟨b, (q + i.toNat) * sz, none⟩ := by
           rw [Nat.add_mul]
           unfold Addr.add
           split <;> simp_all
         have hin : 0 ≤ i ∧ i < (m : Int) := by omega
         rw [q6] at q2
         simp [execOp, ho, ev, evi, Instr.indexAt, asIntOf, run_underlying q2, sizeOf, typeInfo, q7, q8, hin, hadd]
       · unfold Rep
         exact ⟨rfl, (List.getElem?_eq_some_iff.1 hb).1, Nat.le_of_eq hG.symm, fun _ => ⟨b, by rw [g5]; rfl, rfl⟩⟩
     · cases h
   · cases h
 · rename_i ag sz0 zs n el sz r g sz' i0 off kk i hd hx hix
   split at h
   · rename_i el' sz2 g' es hg
     split at h
     · rename_i hc
       obtain ⟨rfl, rfl, rfl, rfl, rfl, hn, hi0, hi1⟩ := hc
       simp only [val, Option.some.injEq] at h
       subst h
       rw [hx] at e
       rw [hix] at ei
       have evi := imm_int ei
       obtain ⟨b, hb1, ev⟩ := ref_eptr0 hI e (hget _ _ hg)
       obtain ⟨inf, z, u, q1, q2, _, _, q5, _⟩ := td_facts hd
       obtain ⟨inf2, q6, q7, q8⟩ := arr_of q5
       refine does_value hI (v := .pointer (some ⟨b, i.toNat * sz + 0, none⟩)) ?_ ?_
       · have hadd : (⟨b, 0 * sz + 0, none⟩ : Addr).add (i.toNat * sz) = ⟨b, i.toNat * sz + 0, none⟩ := by unfold Addr.add; split <;> simp_all
         have hin : 0 ≤ i ∧ i < (n : Int) := by omega
         rw [q6] at q2
         simp only [Nat.add_zero, Nat.zero_mul] at hadd ev ⊢
         simp [execOp, ho, ev, evi, Instr.indexAt, Instr.sureAddr, asIntOf, run_underlying q2, sizeOf, typeInfo, q7, q8, hin, hadd]
       · unfold Rep at e ⊢
         exact ⟨rfl, e.2.1, e.2.2.1, fun _ => ⟨b, hb1, rfl⟩⟩
     · cases h
   · cases h
 · rename_i ag sz0 zs n el sz cs kk i hd hx hix
   split at h
   · rename_i hc
     obtain ⟨hi0, hi1⟩ := hc
     simp only [val, Option.some.injEq] at h
     subst h
     rw [hx] at e
     rw [hix] at ei
     have evi := imm_int ei
     unfold Rep at e
     obtain ⟨b, off, vs, ev, hq, hC, hcell⟩ := e
     obtain ⟨inf, z, u, q1, q2, _, _, q5, _⟩ := td_facts hd
     obtain ⟨inf2, q6, q7, q8⟩ := arr_of q5
     refine does_value hI (v := .pointer (some ⟨b, off + i.toNat * sz, none⟩)) ?_ ?_
     · have hadd : (⟨b, off, none⟩ : Addr).add (i.toNat * sz) = ⟨b, off + i.toNat * sz, none⟩ := by unfold Addr.add; split <;> simp_all
       have hin : 0 ≤ i ∧ i < (n : Int) := by omega
       rw [q6] at q2
       simp [execOp, ho, ev, evi, Instr.indexAt, Instr.sureAddr, asIntOf, run_underlying q2, sizeOf, typeInfo, q7, q8, hin, hadd]
     · unfold Rep
       exact ⟨b, _, vs.drop (i.toNat * sz), rfl, hq, RepC_drop hC _, fun j u hj => by rw [Nat.add_assoc]; rw [List.getElem?_drop] at hj; exact hcell _ u hj⟩
   · cases h
 · cases h
omit hget in
theorem does_index {t : TypeId} {x ix : Operand} (ho : o.op = .index t x ix) (h : absOp P Γ.eqT o id look get cr = some out) : Does P Γ k w a s.B o out := by
 unfold absOp at h
 simp only [ho] at h
 have e := hT x
 have ei := hT ix
 split at h
 · rename_i ag sz0 zs str kk i hd hx hix
   split at h
   · rename_i hc
     cases hj : str.data[i.toNat]? with
     | none => rw [hj] at h; cases h
     | some p =>
       rw [hj] at h
       simp only [Option.bind_some, val, Option.some.injEq] at h
       subst h
       rw [hx] at e
       rw [hix] at ei
       have evi := imm_int ei
       have ev := imm_str e
       obtain ⟨inf, z, u, q1, q2, _, _, q5, _⟩ := td_facts hd
       have q6 := str_of q5
       subst q6
       refine does_value hI (v := .int .u8 p.toNat) ?_ mk_int
       have hlt := (Array.getElem?_eq_some_iff.1 hj)
       obtain ⟨hlt, hval⟩ := hlt
       have hs : str[i.toNat]? = some p := by
         rw [getElem?_pos str i.toNat hlt]
         exact congrArg some hval
       simp [execOp, ho, ev, evi, Instr.index, asIntOf, run_underlying q2, hc, hs]
   · cases h
 · cases h
omit hget in
theorem does_max {args : Array Operand} {ts : Array TypeId} (ho : o.op = .call ⟨.builtin .max, args, ts⟩) (h : absOp P Γ.eqT o id look get cr = some out) : Does P Γ k w a s.B o out := by
 unfold absOp at h
 simp only [ho] at h
 split at h
 · rename_i kk x kk' y hargs
   simp only [val, Option.some.injEq] at h
   subst h
   obtain ⟨x1, x2, ha, hx1, hx2⟩ : ∃ x1 x2, args = #[x1, x2] ∧ look x1 = .imm (.int kk x) ∧ look x2 = .imm (.int kk' y) := by
     cases hl : args.toList with
     | nil => rw [hl] at hargs; simp at hargs
     | cons x1 l =>
       cases l with
       | nil => rw [hl] at hargs; simp at hargs
       | cons x2 l =>
         cases l with
         | nil =>
           rw [hl] at hargs
           simp only [List.map_cons, List.map_nil, List.cons.injEq, and_true] at hargs
           exact ⟨x1, x2, by apply Array.ext'; simpa using hl, hargs.1, hargs.2⟩
         | cons x3 l => rw [hl] at hargs; simp at hargs
   have f1 := hT x1
   have f2 := hT x2
   rw [hx1] at f1
   rw [hx2] at f2
   have v1 := imm_int f1
   have v2 := imm_int f2
   refine does_value hI (v := .int kk (if y > x then y else x)) ?_ mk_int
   simp [execOp, ho, resolve, invoke, builtin, ha, v1, v2, Builtin.max_, Builtin.max2]
 · cases h
omit hget in
theorem does_min {args : Array Operand} {ts : Array TypeId} (ho : o.op = .call ⟨.builtin .min, args, ts⟩) (h : absOp P Γ.eqT o id look get cr = some out) : Does P Γ k w a s.B o out := by
 unfold absOp at h
 simp only [ho] at h
 split at h
 · rename_i kk x kk' y hargs
   simp only [val, Option.some.injEq] at h
   subst h
   obtain ⟨x1, x2, ha, hx1, hx2⟩ : ∃ x1 x2, args = #[x1, x2] ∧ look x1 = .imm (.int kk x) ∧ look x2 = .imm (.int kk' y) := by
     cases hl : args.toList with
     | nil => rw [hl] at hargs; simp at hargs
     | cons x1 l =>
       cases l with
       | nil => rw [hl] at hargs; simp at hargs
       | cons x2 l =>
         cases l with
         | nil =>
           rw [hl] at hargs
           simp only [List.map_cons, List.map_nil, List.cons.injEq, and_true] at hargs
           exact ⟨x1, x2, by apply Array.ext'; simpa using hl, hargs.1, hargs.2⟩
         | cons x3 l => rw [hl] at hargs; simp at hargs
   have f1 := hT x1
   have f2 := hT x2
   rw [hx1] at f1
   rw [hx2] at f2
   have v1 := imm_int f1
   have v2 := imm_int f2
   refine does_value hI (v := .int kk (if y < x then y else x)) ?_ mk_int
   simp [execOp, ho, resolve, invoke, builtin, ha, v1, v2, Builtin.min_, Builtin.min2]
 · cases h
end
end Go.Pv
namespace Go.Pv
open Go.RowKit (Below)
theorem addr_add (b o j : Nat) : (⟨b, o, none⟩ : Addr).add j = ⟨b, o + j, none⟩ := by
 unfold Addr.add
 split
 · rename_i h; rw [h, Nat.add_zero]
 · rfl
theorem struct_of {P : Program} {u : TypeDesc} {fs : List (Nat × Nat × Bool)} (hk : kindOf P u = some (.struct fs)) : ∃ fields : Array Field, u = .struct fields ∧ fieldsOf P fields.toList = some fs := by
 unfold kindOf at hk
 split at hk <;> first | (cases hk; done) | (rename_i n e'; cases hq : P.info? e' <;> rw [hq] at hk <;> cases hk; done) | skip
 · rename_i fields
   cases hq : fieldsOf P fields.toList with
   | none => rw [hq] at hk; cases hk
   | some gs =>
     rw [hq] at hk
     simp only [Option.map_some, Option.some.injEq, TK.struct.injEq] at hk
     subst hk
     exact ⟨fields, rfl, hq⟩
theorem fold_set : ∀ (l : List Value) (off i : Nat) (cs : Array Value), off + i + l.length ≤ cs.size →
   ((l.zipIdx i).foldl (fun cs x => cs.setIfInBounds (off + x.2) x.1) cs).toList = cs.toList.take (off + i) ++ l ++ cs.toList.drop (off + i + l.length)
 | [], off, i, cs, _ => by simp
 | v :: l, off, i, cs, h => by
   simp only [List.length_cons] at h
   simp only [List.zipIdx_cons, List.foldl_cons]
   rw [fold_set l off (i + 1) _ (by simp; omega)]
   have hlt : off + i < cs.toList.length := by rw [Array.length_toList]; omega
   rw [Array.toList_setIfInBounds]
   have e1 : (cs.toList.set (off + i) v).take (off + (i + 1)) = cs.toList.take (off + i) ++ [v] := by
     rw [show off + (i + 1) = off + i + 1 by omega, List.take_succ_eq_append_getElem (by simpa using hlt)]
     rw [List.take_set_of_le (Nat.le_refl _)]
     simp
   have e2 : (cs.toList.set (off + i) v).drop (off + (i + 1) + l.length) = cs.toList.drop (off + i + (l.length + 1)) := by
     rw [List.drop_set_of_lt (by omega)]
     congr 1
     omega
   rw [e1, e2]
   simp [List.length_cons]
theorem fill_one {place : Nat → Option (Nat × Nat)} {cells : Array Value} {i off size : Nat} {v : Value} {rest : List (Nat × Value)} (hp : place i = some (off, size)) (hv : v.cells.size = size) (hf : off + size ≤ cells.size) :
   ∃ cs : Array Value, cs.toList = cells.toList.take off ++ v.cells.toList ++ cells.toList.drop (off + size) ∧ Instr.fill place cells ((i, v) :: rest) = Instr.fill place cs rest := by
 refine ⟨v.cells.zipIdx.foldl (fun cs (x : Value × Nat) => cs.setIfInBounds (off + x.2) x.1) cells, ?_, ?_⟩
 · rw [← Array.foldl_toList, Array.toList_zipIdx]
   have := fold_set v.cells.toList off 0 cells (by rw [Array.length_toList]; omega)
   simp only [Nat.add_zero, Array.length_toList, hv] at this
   exact this
 · rw [Instr.fill, hp]
   simp only
   rw [if_neg (by rw [hv]; simp; omega)]
section
variable {P : Program} {Γ : Ctx} {k : K} {w : World} {a : Act} {s : St} (hI : Inv Γ k s.B w) {look : Operand → PV} (hT : ∀ x, Rep k s.B.length w (look x) (a.eval x)) {o : Oper} {id : Nat} {get : Nat → Option Blk} {cr : List Orc} {out : Out} (hget : ∀ r b, get r = some b → s.B[r]? = some b)
include hI hT hget
omit hI hget in
theorem fill_rep {fs : List (Nat × Nat × Bool)} : ∀ (parts : List (Nat × Operand)) (cs out : List PV) (cells : Array Value), fillP fs cs (parts.map fun x => (x.1, look x.2)) = some out → RepL k s.B.length w cs cells.toList →
   ∃ cells' : Array Value, Instr.fill (fun i => (fs[i]?).map fun x => (x.1, x.2.1)) cells (parts.map fun x => (x.1, a.eval x.2)) = some cells' ∧ RepL k s.B.length w out cells'.toList
 | [], cs, out, cells, h, hr => by
   simp only [List.map_nil, fillP, Option.some.injEq] at h
   subst h
   exact ⟨cells, by simp [Instr.fill], hr⟩
 | (i, x) :: r, cs, out, cells, h, hr => by
   simp only [List.map_cons] at h
   unfold fillP at h
   split at h
   · rename_i fo fz fa ps hf hc
     split at h
     · rename_i hle
       have hY := Rep_cells (hT x) hc
       have hYl : ps.length = (a.eval x).cells.size := by rw [RepL_len hY, Array.length_toList]
       have hlc : cs.length = cells.size := by rw [RepL_len hr, Array.length_toList]
       obtain ⟨cs1, e1, e2⟩ := fill_one (place := fun i => (fs[i]?).map fun x => (x.1, x.2.1)) (cells := cells) (i := i) (off := fo) (size := fz) (v := a.eval x) (rest := r.map fun x => (x.1, a.eval x.2)) (by simp [hf]) (by omega) (by omega)
       obtain ⟨cells', h1, h2⟩ := fill_rep r _ out cs1 h (by rw [e1]; exact RepL_app (RepL_app (RepL_take hr fo) hY) (RepL_drop hr _))
       refine ⟨cells', ?_, h2⟩
       simp only [List.map_cons]
       rw [e2]
       exact h1
     · cases h
   · cases h
omit hI hT hget in
theorem places_of : ∀ {l : List Field} {fs : List (Nat × Nat × Bool)}, fieldsOf P l = some fs → l.mapM (fun f => (P.info? f.type).map fun i => (f.offset, i.size)) = some (fs.map fun x => (x.1, x.2.1))
 | [], fs, h => by
   simp only [fieldsOf, Option.some.injEq] at h
   subst h
   rfl
 | x :: r, fs, h => by
   unfold fieldsOf at h
   split at h
   · rename_i i u gs h1 h2 h3
     simp only [Option.some.injEq] at h
     subst h
     rw [List.mapM_cons, h1, places_of h3]
     rfl
   · cases h
omit hget in
theorem does_build {t : TypeId} {parts : Array (Nat × Operand)} (ho : o.op = .build t parts) (h : absOp P Γ.eqT o id look get cr = some out) : Does P Γ k w a s.B o out := by
 unfold absOp at h
 simp only [ho] at h
 split at h
 · rename_i ag sz0 zs fs hd
   cases hf : fillP fs (zs.map .imm) (parts.toList.map fun x => (x.1, look x.2)) with
   | none => rw [hf] at h; cases h
   | some cs =>
     rw [hf] at h
     simp only [Option.bind_some, val, Option.some.injEq] at h
     subst h
     obtain ⟨i, z, u, h1, h2, h3, h4, h5, _⟩ := td_facts hd
     obtain ⟨fields, hu, hfs⟩ := struct_of h5
     subst hu
     obtain ⟨cells', g1, g2⟩ := fill_rep hT parts.toList (zs.map .imm) cs z.cells hf (RepL_imm (consts_rep h4))
     refine does_value hI (v := .agg cells') ?_ (Rep_norm (Rep_agg.2 ⟨cells'.toList, by simp, g2⟩))
     have hb : P.built t (parts.map fun x => (x.1, a.eval x.2)).toList = some cells' := by
       unfold Program.built
       rw [h1, h2]
       simp only [h3, places_of hfs]
       rw [Array.toList_map, ← g1]
       congr 1
       funext i
       simp
     have := run_build (P := P) w t _ cells' hb
     simp [execOp, ho, this]
 · cases h
omit hI hget in
theorem slots_rep {sz : Nat} : ∀ (parts : List (Nat × Operand)) (i : Nat) (ps : List PV) (cells : Array Value), slotsP i (parts.map fun x => (x.1, look x.2)) = some ps → sizesB sz ps = true → (i + ps.length) * sz ≤ cells.size →
   ∃ (cells' : Array Value) (xs : List Value), Instr.fill (fun i => some (i * sz, sz)) cells (parts.map fun x => (x.1, a.eval x.2)) = some cells' ∧ cells'.toList = cells.toList.take (i * sz) ++ xs ++ cells.toList.drop ((i + ps.length) * sz) ∧ RepE k s.B.length w sz ps xs ∧ xs.length = ps.length * sz
 | [], i, ps, cells, h, _, _ => by
   simp only [List.map_nil, slotsP, Option.some.injEq] at h
   subst h
   exact ⟨cells, [], by simp [Instr.fill], by simp, by simp [RepE], by simp⟩
 | (j, x) :: r, i, ps, cells, h, hs, hc => by
   simp only [List.map_cons] at h
   unfold slotsP at h
   split at h
   · rename_i hij
     subst hij
     split at h
     · rename_i qs hq
       simp only [Option.some.injEq] at h
       subst h
       unfold sizesB at hs
       rw [Bool.and_eq_true] at hs
       obtain ⟨hs1, hs2⟩ := hs
       split at hs1
       · rename_i cs hcs
         have hz : cs.length = sz := by simpa using hs1
         have hY := Rep_cells (hT x) hcs
         have hYl : cs.length = (a.eval x).cells.size := by rw [RepL_len hY, Array.length_toList]
         have hv : (a.eval x).cells.size = sz := by omega
         simp only [List.length_cons] at hc
         have h1 : i * sz + sz ≤ cells.size := by
           have : (i + 1) * sz ≤ (i + (qs.length + 1)) * sz := Nat.mul_le_mul_right _ (by omega)
           rw [Nat.succ_mul] at this
           omega
         obtain ⟨cs1, e1, e2⟩ := fill_one (place := fun i => some (i * sz, sz)) (cells := cells) (i := i) (off := i * sz) (size := sz) (v := a.eval x) (rest := r.map fun x => (x.1, a.eval x.2)) rfl hv h1
         have hl1 : cs1.size = cells.size := by
           have := congrArg List.length e1
           simp only [Array.length_toList, List.length_append, List.length_take, List.length_drop, hv] at this
           omega
         obtain ⟨cells', xs, g1, g2, g3, g4⟩ := slots_rep r (i + 1) qs cs1 hq hs2 (by rw [hl1, show i + 1 + qs.length = i + (qs.length + 1) by omega]; exact hc)
         refine ⟨cells', (a.eval x).cells.toList ++ xs, ?_, ?_, ?_, ?_⟩
         · simp only [List.map_cons]
           rw [e2]
           exact g1
         · rw [g2, e1]
           have hL : ((cells.toList.take (i * sz) ++ (a.eval x).cells.toList ++ cells.toList.drop (i * sz + sz))).take ((i + 1) * sz) = cells.toList.take (i * sz) ++ (a.eval x).cells.toList := by
             rw [List.take_append_of_le_length (by simp [hv, Nat.succ_mul]; omega)]
             rw [List.take_of_length_le (by simp [hv, Nat.succ_mul]; omega)]
           have hD : ((cells.toList.take (i * sz) ++ (a.eval x).cells.toList ++ cells.toList.drop (i * sz + sz))).drop ((i + 1 + qs.length) * sz) = cells.toList.drop ((i + (qs.length + 1)) * sz) := by
             have hlen : (cells.toList.take (i * sz) ++ (a.eval x).cells.toList).length = i * sz + sz := by
               simp [hv]
               omega
             have hge : i * sz + sz ≤ (i + 1 + qs.length) * sz := by
               rw [Nat.add_mul, Nat.succ_mul]
               omega
             rw [List.drop_append, List.drop_of_length_le (by rw [hlen]; exact hge), hlen, List.drop_drop]
             simp only [List.nil_append]
             congr 1
             rw [show i + (qs.length + 1) = i + 1 + qs.length by omega]
             omega
           rw [hL, hD]
           simp [List.length_cons]
         · unfold RepE
           exact ⟨a.eval x, xs, rfl, hv, RepL_one hY, hT x, g3⟩
         · rw [List.length_append, Array.length_toList, hv, g4, List.length_cons, Nat.succ_mul]
           omega
       · cases hs1
     · cases h
   · cases h
theorem does_buildSlice {t : TypeId} {n : Nat} {parts : Array (Nat × Operand)} (ho : o.op = .buildSlice t n parts) (h : absOp P Γ.eqT o id look get cr = some out) : Does P Γ k w a s.B o out := by
 unfold absOp at h
 simp only [ho] at h
 split at h
 · rename_i ag sz0 zs el sz bb g ps hd hg hp
   split at h
   · rename_i hc
     obtain ⟨rfl, htd, hsz, hmax, hsizes⟩ := hc
     simp only [Option.some.injEq] at h
     subst h
     obtain ⟨i, z, u, h1, h2, h3, h4, h5, _⟩ := td_facts hd
     obtain ⟨ie, hu, hie, hies⟩ := slice_of h5
     subst hu
     have hd' := hget _ _ hg
     have hG : k.G id = g := hI.blk id _ hd'
     obtain ⟨d2, hd2⟩ := Option.isSome_iff_exists.1 htd
     obtain ⟨i2, z2, u2, e1, e2, e3, _⟩ := td_facts hd2
     rw [hie] at e1
     injection e1 with e1
     subst e1
     have hsl : (Array.range (ps.length * sz)).size = ps.length * sz := by simp
     obtain ⟨cells', xs, g1, g2, g3, g4⟩ := slots_rep hT parts.toList 0 ps ((Array.range (ps.length * sz)).map (z2.cells[· % z2.cells.size]!)) hp hsizes (by simp)
     have hcells : cells'.toList = xs := by
       rw [g2]
       simp
     have hcs : cells'.size = ps.length * sz := by rw [← Array.length_toList, hcells, g4]
     have e00 : ∀ g : Nat → Value, (Array.range 0).map g = #[] := fun _ => by simp
     have hfill : Instr.fill (fun i => some (i * sz, sz)) ((Array.range (ps.length * sz)).map ((if ps.length * sz = 0 then #[] else z2.cells)[· % (if ps.length * sz = 0 then #[] else z2.cells).size]!)) (parts.toList.map fun x => (x.1, a.eval x.2)) = some cells' := by
       rw [← g1]
       by_cases hz : ps.length * sz = 0
       · simp only [hz, e00]
       · simp [hz]
     have hrun : (execOp a.eval o).run P w = .ok (.value (.slice (some ⟨w.heap.size, 0, none⟩) ps.length ps.length)) (w.alloc (.cells cells' el)) := by
       have hbig : ¬ ps.length * sz > 2 ^ 24 := by omega
       by_cases hz : ps.length * sz = 0
       · have hps : ps = [] := by
           cases ps with
           | nil => rfl
           | cons p q => simp only [List.length_cons, Nat.succ_mul] at hz; omega
         subst hps
         simp only [List.length_nil, Nat.zero_mul, if_true, e00] at hfill
         simp [e00, execOp, ho, Instr.buildSlice, run_underlying h2, sizeOf, typeInfo, hie, hies, hfill, newRow]
       · simp only [hz, if_false] at hfill
         simp [execOp, ho, Instr.buildSlice, run_underlying h2, sizeOf, typeInfo, zeroValue, hie, hies, e3, hz, hbig, hfill, newRow]
     have hown : (w.alloc (.cells cells' el)).ownsRow Γ.N el sz (.slice (some ⟨w.heap.size, 0, none⟩) ps.length ps.length) ps.length xs := by
       refine ⟨g4, Or.inr ⟨w.heap.size, ps.length, cells', rfl, hI.le, heap_alloc_new w _, Nat.le_refl _, ?_, hcs, ?_⟩⟩
       · simp only [maxLen]
         have : ps.length ≤ ps.length * sz := Nat.le_mul_of_pos_right _ hsz
         omega
       · rw [hcells, List.take_of_length_le (by rw [g4]; exact Nat.le_refl _)]
     obtain ⟨q1, q2⟩ := inv_put (v := .slice (some ⟨w.heap.size, 0, none⟩) ps.length ps.length) (g := g + 1) (y := .row el sz (g + 1) ps) (w' := w.alloc (.cells cells' el)) hI hd' (Or.inl (by omega)) ((Below.refl _ _).alloc hI.le _)
       (fun b hb _ => Below.heap_alloc _ _ _ hb) (fun b hb => by
         injection hb with hb
         subst hb
         exact ⟨Or.inl (Nat.le_refl _), by simp⟩) (fun hx => ⟨K.put_G _ _ _ _, xs, by rw [K.put_ρ]; exact hown, RepE_mono hx _ _ g3⟩)
     refine does_step hrun q1 (by unfold setB; unfold setB; exact q2) ?_
     unfold Rep
     exact ⟨rfl, (List.getElem?_eq_some_iff.1 hd').1, Nat.le_of_eq (K.put_G _ _ _ _).symm, fun _ => by rw [K.put_ρ]⟩
   · cases h
 · cases h
omit hI hget in
theorem bound_run {x : Option Operand} {d : Nat} {z : Int} (h : bound look x d = some z) : (x = none ∧ z = d) ∨ ∃ y kk, x = some y ∧ a.eval y = .int kk z := by
 unfold bound at h
 split at h
 · simp only [Option.some.injEq] at h
   exact Or.inl ⟨rfl, h.symm⟩
 · rename_i y
   split at h
   · rename_i kk i hy
     simp only [Option.some.injEq] at h
     subst h
     have e := hT y
     rw [hy] at e
     exact Or.inr ⟨y, kk, rfl, imm_int e⟩
   · cases h
omit hI hT hget in
theorem bounds_run {lo hi : Option Operand} {l h : Int} {len cap : Nat} {b : Bool} (hl : (lo = none ∧ l = 0) ∨ ∃ y kk, lo = some y ∧ a.eval y = .int kk l) (hh : (hi = none ∧ h = len) ∨ ∃ y kk, hi = some y ∧ a.eval y = .int kk h) (h0 : 0 ≤ l) (h1 : l ≤ h) (h2 : h ≤ cap) :
   (Instr.sliceBounds b len cap (lo.map a.eval) (hi.map a.eval) none).run P w = .ok (l.toNat, h.toNat, cap) w := by
 unfold Instr.sliceBounds
 have hb : ∀ (kk : IntKind) (z : Int) (y : Nat) (c : BoundsCode), 0 ≤ z → z ≤ y → (Instr.sliceBound (.int kk z) y c).run P w = .ok z.toNat w := by
   intro kk z y c g1 g2
   unfold Instr.sliceBound
   simp [asIntOf, g1, g2]
 rcases hl with ⟨rfl, rfl⟩ | ⟨y, kk, rfl, ey⟩ <;> rcases hh with ⟨rfl, rfl⟩ | ⟨y', kk', rfl, ey'⟩
 · simp
 · simp [ey', hb kk' h cap _ (by omega) h2]
 · simp [ey, hb kk l len _ h0 h1]
 · simp [ey, ey', hb kk' h cap _ (by omega) h2, hb kk l h.toNat _ h0 (by omega)]
omit hI hT hget in
theorem row_drop {Q : Nat → Prop} {sz b : Nat} : ∀ {es : List IV} {off : Nat} (n : Nat), RepR Q w sz b off es → RepR Q w sz b (off + n * sz) (es.drop n)
 | es, off, 0, h => by simpa using h
 | [], off, n + 1, _ => by simp [RepR]
 | e :: es, off, n + 1, h => by
   unfold RepR at h
   simp only [List.drop_succ_cons]
   rw [show off + (n + 1) * sz = off + sz + n * sz by rw [Nat.succ_mul]; omega]
   exact row_drop n h.2
omit hI hT hget in
theorem row_take {Q : Nat → Prop} {sz b : Nat} : ∀ {es : List IV} {off : Nat} (n : Nat), RepR Q w sz b off es → RepR Q w sz b off (es.take n)
 | es, off, 0, h => by simp [RepR]
 | [], off, n + 1, _ => by simp [RepR]
 | e :: es, off, n + 1, h => by
   unfold RepR at h
   simp only [List.take_succ_cons]
   unfold RepR
   exact ⟨h.1, row_take n h.2⟩
omit hI hT hget in
theorem addA (b o n : Nat) : (⟨b, o, none⟩ : Addr).add n = ⟨b, o + n, none⟩ := by unfold Addr.add; split <;> simp_all
theorem does_slice {t : TypeId} {x : Operand} {lo hi : Option Operand} (ho : o.op = .slice t x lo hi none) (h : absOp P Γ.eqT o id look get cr = some out) : Does P Γ k w a s.B o out := by
 unfold absOp at h
 simp only [ho] at h
 have e := hT x
 split at h
 · rename_i str l hd hx hl
   split at h
   · rename_i hh hhi
     split at h
     · rename_i hc
       obtain ⟨h0, h1, h2⟩ := hc
       simp only [val, Option.some.injEq] at h
       subst h
       rw [hx] at e
       have ev := imm_str e
       obtain ⟨i, z, u, q1, q2, _, _, q5, _⟩ := td_facts hd
       have q6 := str_of q5
       subst q6
       have hr := bounds_run (P := P) (w := w) (a := a) (b := false) (bound_run hT hl) (bound_run hT hhi) h0 h1 h2
       refine does_value hI (v := .string (str.extract l.toNat hh.toNat)) ?_ mk_str
       simp [execOp, ho, ev, Instr.sliceAt, Instr.slice, run_underlying q2, hr]
     · cases h
   · cases h
 · rename_i ag sz0 zs el sz bb sz' es l hd hx hl
   split at h
   · rename_i hh hhi
     split at h
     · rename_i hc
       obtain ⟨rfl, h0, h1, h2⟩ := hc
       simp only [val, Option.some.injEq] at h
       subst h
       rw [hx] at e
       have e := Rep_imm.1 e
       unfold RepI at e
       obtain ⟨ad, c, ev, g1, g2, g3⟩ := e
       obtain ⟨i, z, u, q1, q2, _, _, q5, _⟩ := td_facts hd
       obtain ⟨ie, q6, q7, q8⟩ := slice_of q5
       subst q6
       have hr := bounds_run (P := P) (w := w) (a := a) (b := true) (bound_run hT hl) (bound_run hT hhi) h0 h1 (show hh ≤ ((c : Nat) : Int) by omega)
       have hlen : ((es.drop l.toNat).take (hh.toNat - l.toNat)).length = hh.toNat - l.toNat := by rw [List.length_take, List.length_drop]; omega
       refine does_value hI (v := .slice (if c = l.toNat then ad else ad.map (·.add (l.toNat * sz))) (hh.toNat - l.toNat) (c - l.toNat)) ?_ ?_
       · simp [execOp, ho, ev, Instr.sliceAt, Instr.slice, run_underlying q2, hr, sizeOf, typeInfo, q7, q8]
       · rw [Rep_imm]
         unfold RepI
         refine ⟨_, _, by rw [hlen], by rw [hlen]; omega, by omega, fun hp => ?_⟩
         rw [hlen] at hp
         obtain ⟨b, off, ea, hq, hR⟩ := g3 (by omega)
         subst ea
         refine ⟨b, off + l.toNat * sz, ?_, hq, row_take _ (row_drop _ hR)⟩
         rw [if_neg (by omega)]
         simp only [Option.map_some, Option.some.injEq]
         unfold Addr.add
         split <;> simp_all
     · cases h
   · cases h
 · rename_i ag sz0 zs el sz bb r g l hd hx hl
   split at h
   · rename_i el' sz' g' es hg
     split at h
     · split at h
       · rename_i hh hhi
         split at h
         · rename_i hc
           obtain ⟨rfl, rfl, h0, h1, h2⟩ := hc
           simp only [val, Option.some.injEq] at h
           subst h
           rw [hx] at e
           have hb := hget _ _ hg
           obtain ⟨xs, ev, hown, hE, hG⟩ := ref_row hI e hb
           obtain ⟨i, z, u, q1, q2, _, _, q5, _⟩ := td_facts hd
           obtain ⟨ie, q6, q7, q8⟩ := slice_of q5
           subst q6
           obtain ⟨ad, c, hf⟩ := own_form hown
           have hcap : es.length ≤ c ∧ c ≤ maxLen := by
             rcases hown.2 with ⟨h3, h4⟩ | ⟨b, cap, cur, h3, _, _, h4, h5, _⟩
             · rw [hf] at h3; injection h3 with _ _ h3
               subst h3
               exact ⟨by omega, Nat.zero_le _⟩
             · rw [hf] at h3; injection h3 with _ _ h3
               subst h3
               exact ⟨h4, h5⟩
           have hrn := bounds_run (P := P) (w := w) (a := a) (b := true) (bound_run hT hl) (bound_run hT hhi) h0 h1 (show hh ≤ ((c : Nat) : Int) by omega)
           refine does_value hI (v := .slice (if c = l.toNat then ad else ad.map (·.add (l.toNat * sz))) (hh.toNat - l.toNat) (c - l.toNat)) ?_ ?_
           · have hev : a.eval x = .slice ad es.length c := ev.trans hf
             rw [Option.map_some] at hrn
             simp [execOp, ho, hev, Instr.sliceAt, Instr.slice, run_underlying q2, hrn, sizeOf, typeInfo, q7, q8]
           · unfold Rep
             refine ⟨rfl, (List.getElem?_eq_some_iff.1 hb).1, Nat.le_of_eq hG.symm, fun _ => ⟨_, _, ad, es.length, c, rfl, by omega, by omega, hf, by omega, fun hp => ?_⟩⟩
             rcases hown.2 with ⟨h3, h4⟩ | ⟨b, cap, cur, h3, _⟩
             · omega
             · rw [hf] at h3; injection h3 with h3 _ _
               refine ⟨b, h3, ?_⟩
               rw [if_neg (by omega), h3, Option.map_some, addA, Nat.zero_add]
         · cases h
       · cases h
     · split at h
       · rename_i hh hhi
         split at h
         · rename_i hc
           obtain ⟨rfl, rfl, rfl, h1, h2⟩ := hc
           simp only [Option.some.injEq] at h
           subst h
           rw [hx] at e
           have hb := hget _ _ hg
           obtain ⟨xs, ev, hown, hE, hG⟩ := ref_row hI e hb
           obtain ⟨i, z, u, q1, q2, _, _, q5, _⟩ := td_facts hd
           obtain ⟨ie, q6, q7, q8⟩ := slice_of q5
           subst q6
           obtain ⟨ad, c, hf⟩ := own_form hown
           have hcap : es.length ≤ c := by
             rcases hown.2 with ⟨h3, h4⟩ | ⟨b, cap, cur, h3, _, _, h4, _⟩
             · omega
             · rw [hf] at h3; injection h3 with _ _ h3; omega
           have hrn := bounds_run (P := P) (w := w) (a := a) (b := true) (bound_run hT hl) (bound_run hT hhi) (Int.le_refl _) h1 (show hh ≤ ((c : Nat) : Int) by omega)
           have hadd : (if c = 0 then ad else ad.map (·.add (0 * sz))) = ad := by
             rw [Nat.zero_mul]
             split
             · rfl
             · cases ad with
               | none => rfl
               | some x => simp [Addr.add]
           have hm : hh.toNat ≤ es.length := by omega
           have hone : ∀ (es : List PV) (xs : List Value) (m : Nat), RepE k s.B.length w sz es xs → RepE k s.B.length w sz (es.take m) (xs.take (m * sz)) := by
             intro es
             induction es with
             | nil => intro xs m h; unfold RepE at h; subst h; simp [RepE]
             | cons e es ih =>
               intro xs m h
               cases m with
               | zero => simp [RepE]
               | succ m =>
                 unfold RepE at h
                 obtain ⟨v, r, e1, h3, h4, h5, h6⟩ := h
                 subst e1
                 simp only [List.take_succ_cons]
                 unfold RepE
                 refine ⟨v, r.take (m * sz), ?_, h3, h4, h5, ih r m h6⟩
                 rw [List.take_append, List.take_of_length_le (by rw [Array.length_toList, h3, Nat.succ_mul]; omega), Array.length_toList, h3, show (m + 1) * sz - sz = m * sz by rw [Nat.succ_mul]; omega]
           have hrow : w.ownsRow Γ.N el' sz (.slice ad hh.toNat c) hh.toNat (xs.take (hh.toNat * sz)) := by
             have hmul : hh.toNat * sz ≤ es.length * sz := Nat.mul_le_mul_right _ hm
             refine ⟨?_, ?_⟩
             · have := hown.1
               rw [List.length_take]
               omega
             · rcases hown.2 with ⟨h4, h3⟩ | ⟨b, cap, cur, h3, h4, h5, h6, h7, h8, h9⟩
               · rw [hf] at h4
                 injection h4 with h4 _ h5
                 exact Or.inl ⟨by rw [h4, h5, show hh.toNat = 0 by omega], by omega⟩
               · rw [hf] at h3
                 injection h3 with h3 _ h10
                 refine Or.inr ⟨b, cap, cur, by rw [h3, h10], h4, h5, by omega, h7, h8, ?_⟩
                 rw [← h9, List.take_take, Nat.min_eq_left hmul]
           obtain ⟨g1, g2⟩ := inv_put (v := .slice ad hh.toNat c) (g := g + 1) (y := .row el' sz (g + 1) (es.take hh.toNat)) (w' := w) hI hb (Or.inl (by omega)) (Below.refl _ _) (fun _ _ _ => rfl) (fun b hb' => by
             have hbb : base (k.ρ r) = some b := by rw [hf]; cases ad <;> exact hb'
             exact ⟨Or.inr hbb, (hI.sep r _ b hb hbb).2.2⟩) (fun hx => ⟨K.put_G _ _ _ _, xs.take (hh.toNat * sz), by rw [K.put_ρ, List.length_take, Nat.min_eq_left hm]; exact hrow, RepE_mono hx _ _ (hone es xs _ hE)⟩)
           refine does_step (v := .slice ad hh.toNat c) (w' := w) ?_ g1 (by unfold setB; unfold setB; exact g2) ?_
           · have hev : a.eval x = .slice ad es.length c := ev.trans hf
             rw [Option.map_none] at hrn
             simp only [execOp, ho, hev, Instr.sliceAt, Instr.slice, run_underlying q2, Sem.run_bind, Result.andThen_ok]
             simp [hrn, sizeOf, typeInfo, q7, q8]
             simpa using hadd
           · unfold Rep
             exact ⟨rfl, (List.getElem?_eq_some_iff.1 hb).1, Nat.le_of_eq (K.put_G _ _ _ _).symm, fun _ => (K.put_ρ _ _ _ _).symm⟩
         · cases h
       · cases h
   · cases h
 · rename_i ag sz0 zs el sz bb r g sz' q m l hd hx hl
   split at h
   · rename_i el' sz2 g' es hg
     split at h
     · rename_i hh hhi
       split at h
       · rename_i hc
         obtain ⟨rfl, rfl, rfl, h0, h1, h2⟩ := hc
         simp only [val, Option.some.injEq] at h
         subst h
         rw [hx] at e
         have hb := hget _ _ hg
         obtain ⟨a', c, ad, cap, ev, g1, g2, g3, hG, g5, g4⟩ := ref_sub hI e hb
         obtain ⟨i, z, u, q1, q2, _, _, q5, _⟩ := td_facts hd
         obtain ⟨ie, q6, q7, q8⟩ := slice_of q5
         subst q6
         have hrn := bounds_run (P := P) (w := w) (a := a) (b := true) (bound_run hT hl) (bound_run hT hhi) h0 h1 (show hh ≤ ((c : Nat) : Int) by omega)
         refine does_value hI (v := .slice (if c = l.toNat then a' else a'.map (·.add (l.toNat * sz))) (hh.toNat - l.toNat) (c - l.toNat)) ?_ ?_
         · simp [execOp, ho, ev, Instr.sliceAt, Instr.slice, run_underlying q2, hrn, sizeOf, typeInfo, q7, q8]
         · unfold Rep
           refine ⟨rfl, (List.getElem?_eq_some_iff.1 hb).1, Nat.le_of_eq hG.symm, fun _ => ⟨_, _, ad, es.length, cap, rfl, by omega, by omega, g5, by omega, fun hp => ?_⟩⟩
           obtain ⟨b, f1, f2⟩ := g4 (by omega)
           refine ⟨b, f1, ?_⟩
           rw [if_neg (by omega), f2, Nat.add_mul, Option.map_some, addA]
       · cases h
     · cases h
   · cases h
 · rename_i ag sz0 zs n el sz r g sz' i0 off l hd hx hl
   split at h
   · rename_i el' sz2 g' es hg
     split at h
     · split at h
       · rename_i hc
         obtain ⟨rfl, rfl, rfl, rfl, rfl, hn, h0, h1⟩ := hc
         simp only [val, Option.some.injEq] at h
         subst h
         rw [hx] at e
         have hb := hget _ _ hg
         obtain ⟨b, hb1, ev⟩ := ref_eptr0 hI e hb
         obtain ⟨inf, z, u, q1, q2, _, _, q5, _⟩ := td_facts hd
         obtain ⟨inf2, q6, q7, q8⟩ := arr_of q5
         rw [q6] at q2
         obtain ⟨hG, xs, hown, _⟩ := hI.blk r _ hb
         rcases hown.2 with ⟨e1, e2⟩ | ⟨b', cap, cur, e1, _, _, e4, e5, _⟩
         · rw [e1] at hb1; cases hb1
         rw [e1] at hb1
         obtain rfl : b' = b := Option.some.inj hb1
         have hr := bounds_run (P := P) (w := w) (a := a) (b := false) (len := n) (cap := n) (bound_run hT hl) (Or.inl ⟨rfl, rfl⟩ : (none = none ∧ (n : Int) = n) ∨ ∃ y kk, none = some y ∧ a.eval y = .int kk n) h0 (show l ≤ (n : Int) by omega) (Int.le_refl _)
         refine does_value hI (v := .slice (some (if n = l.toNat then ⟨b', 0, none⟩ else (⟨b', 0, none⟩ : Addr).add (l.toNat * sz))) (n - l.toNat) (n - l.toNat)) ?_ ?_
         · simp only [Nat.add_zero, Nat.zero_mul] at ev
           rw [Option.map_none] at hr
           simp [execOp, ho, ev, Instr.sliceAt, Instr.sureAddr, run_underlying q2, hr, sizeOf, typeInfo, q7, q8]
         · unfold Rep
           refine ⟨rfl, (List.getElem?_eq_some_iff.1 hb).1, Nat.le_of_eq hG.symm, fun _ => ⟨_, _, _, es.length, cap, by rw [← hn], Nat.le_refl _, by omega, e1, by omega, fun hp => ⟨b', rfl, ?_⟩⟩⟩
           rw [if_neg (by omega), addA, Nat.zero_add]
       · cases h
     · cases h
   · cases h
 · cases h
omit hI hT hget in
theorem run_append_none {t ty e : TypeId} {i : TypeInfo} (ht : P.underlying t = some (.slice e)) (hi : P.info? e = some i) (b ad : Option Addr) (n cap c : Nat) (hn : n ≤ cap) :
   (Builtin.append_ #[t, t] ty #[.slice b n cap, .slice ad 0 c]).run P w = .ok (.slice b n cap) w := by
 cases b <;> cases ad <;> simp [Builtin.append_, run_underlying ht, sizeOf, typeInfo, hi, Builtin.lenOf, hn, Builtin.firstCells, loadCells, loadCellsFrom, storeCells]
omit hI hT hget in
theorem RepE_app {kk : K} {n sz : Nat} : ∀ {es es' : List PV} {xs ys : List Value}, RepE kk n w sz es xs → RepE kk n w sz es' ys → RepE kk n w sz (es ++ es') (xs ++ ys)
 | [], _, xs, _, h, h' => by unfold RepE at h; subst h; simpa using h'
 | e :: es, _, xs, _, h, h' => by
   unfold RepE at h
   obtain ⟨v, r, e1, h1, h2, h3, h4⟩ := h
   subst e1
   simp only [List.cons_append, List.append_assoc]
   unfold RepE
   exact ⟨v, _, rfl, h1, h2, h3, RepE_app h4 h'⟩
omit hI hT hget in
theorem row_cells {kk : K} {n sz b : Nat} : ∀ {es : List IV} {off : Nat}, RepR kk.Q w sz b off es → ∃ xs, RepE kk n w sz (es.map .imm) xs ∧ ∀ j u, xs[j]? = some u → w.cell? ⟨b, off + j, none⟩ = some u
 | [], off, _ => ⟨[], by simp [RepE], fun j u h => by simp at h⟩
 | e :: es, off, h => by
   unfold RepR at h
   obtain ⟨⟨v, h1, h2, h3⟩, h4⟩ := h
   obtain ⟨xs, g1, g2⟩ := row_cells (n := n) h4
   refine ⟨v.cells.toList ++ xs, ?_, fun j u hj => ?_⟩
   · simp only [List.map_cons]
     unfold RepE
     exact ⟨v, xs, rfl, h2, RepL_one (Rep_cells (k := kk) (n := n) (Rep_imm.2 h1) rfl), Rep_imm.2 h1, g1⟩
   · by_cases hj' : j < v.cells.size
     · rw [List.getElem?_append_left (by simpa using hj')] at hj
       exact h3 j u (by simpa using hj)
     · rw [List.getElem?_append_right (by simpa using hj'), Array.length_toList, h2] at hj
       have := g2 _ u hj
       rw [show off + sz + (j - sz) = off + j by omega] at this
       exact this
omit hI hT hget in
theorem RepE_split {kk : K} {n sz : Nat} : ∀ {es : List PV} {xs : List Value}, RepE kk n w sz es xs → ∀ m : Nat, RepE kk n w sz (es.take m) (xs.take (m * sz)) ∧ RepE kk n w sz (es.drop m) (xs.drop (m * sz))
 | [], xs, h, m => by
   unfold RepE at h
   subst h
   simp [RepE]
 | e :: es, xs, h, 0 => by
   refine ⟨by simp [RepE], by simpa using h⟩
 | e :: es, xs, h, m + 1 => by
   unfold RepE at h
   obtain ⟨v, r, e0, h1, h2, h3, h4⟩ := h
   subst e0
   obtain ⟨g1, g2⟩ := RepE_split h4 m
   have hl : v.cells.toList.length = sz := by rw [Array.length_toList, h1]
   have hm : (m + 1) * sz = sz + m * sz := by rw [Nat.succ_mul, Nat.add_comm]
   rw [hm, List.take_append, List.drop_append, hl, Nat.add_sub_cancel_left, List.take_of_length_le (l := v.cells.toList) (by rw [hl]; exact Nat.le_add_right _ _), List.drop_of_length_le (l := v.cells.toList) (by rw [hl]; exact Nat.le_add_right _ _), List.nil_append]
   refine ⟨?_, g2⟩
   rw [List.take_succ_cons]
   unfold RepE
   exact ⟨v, _, rfl, h1, h2, h3, g1⟩
omit hT in
theorem src_rep {sz : Nat} {p : PV} {xs : List PV} {v : Value} (h : srcP get sz p = some xs) (hr : Rep k s.B.length w p v) :
   ∃ ad m c news, v = .slice ad m c ∧ m = xs.length ∧ RepE k s.B.length w sz xs news ∧ (m = 0 ∨ ∃ addr, ad = some addr ∧ ∀ j u, news[j]? = some u → w.cell? (addr.add j) = some u) := by
 unfold srcP at h
 split at h
 · simp only [Option.some.injEq] at h
   subst h
   rw [Rep_imm] at hr
   unfold RepI at hr
   exact ⟨none, 0, 0, [], hr, rfl, by simp [RepE], Or.inl rfl⟩
 · rename_i sz' es
   split at h
   · rename_i hs
     subst hs
     simp only [Option.some.injEq] at h
     subst h
     rw [Rep_imm] at hr
     unfold RepI at hr
     obtain ⟨ad, c, e, h1, h2, h3⟩ := hr
     by_cases hz : es.length = 0
     · have : es = [] := List.eq_nil_of_length_eq_zero hz
       subst this
       exact ⟨ad, _, c, [], e, by simp, by simp [RepE], Or.inl rfl⟩
     · obtain ⟨b, off, ea, hq, hR⟩ := h3 (by omega)
       obtain ⟨news, g1, g2⟩ := row_cells (kk := k) (n := s.B.length) hR
       refine ⟨ad, _, c, news, e, by simp, g1, Or.inr ⟨⟨b, off, none⟩, ea, fun j u hj => ?_⟩⟩
       have hadd : (⟨b, off, none⟩ : Addr).add j = ⟨b, off + j, none⟩ := by unfold Addr.add; split <;> simp_all
       rw [hadd]
       exact g2 j u hj
   · cases h
 · rename_i r g
   split at h
   · rename_i el sz' g' es hb
     split at h
     · rename_i hs
       obtain ⟨rfl, rfl⟩ := hs
       simp only [Option.some.injEq] at h
       subst h
       obtain ⟨news, ev, hown, hE, _⟩ := ref_row hI hr (hget _ _ hb)
       rw [← ev] at hown
       have hf := hown.2
       rcases hf with ⟨e1, e2⟩ | ⟨bb, cap, cur, e1, e2, e3, e4, _⟩
       · exact ⟨none, 0, 0, news, e1, e2.symm, hE, Or.inl rfl⟩
       · exact ⟨some ⟨bb, 0, none⟩, _, cap, news, e1, rfl, hE, Or.inr ⟨_, rfl, fun j u hj => hown.cells (g := bb) (by rw [e1]; rfl) j u hj⟩⟩
     · cases h
   · cases h
 · rename_i r g sz' q m
   split at h
   · rename_i el sz2 g' es hb
     split at h
     · rename_i hs
       obtain ⟨rfl, rfl, rfl, hle⟩ := hs
       simp only [Option.some.injEq] at h
       subst h
       have hB := hget _ _ hb
       unfold Rep at hr
       obtain ⟨_, _, _, h3⟩ := hr
       obtain ⟨g1, news, hown, hE⟩ := hI.blk r _ hB
       obtain ⟨a0, c0, ad, len, cap, e1, e2, e3, e4, e5, e6⟩ := h3 g1.symm
       have hsp := RepE_split (RepE_split hE q).2 m
       have hml : m = ((es.drop q).take m).length := by rw [List.length_take, List.length_drop]; omega
       refine ⟨a0, m, c0, _, e1, hml, hsp.1, ?_⟩
       by_cases h0 : m = 0
       · exact Or.inl h0
       · obtain ⟨b, e7, e8⟩ := e6 (by omega)
         subst e7 e8
         refine Or.inr ⟨_, rfl, fun j u hj => ?_⟩
         have hadd := addr_add b
         rw [hadd, show (⟨b, q * sz + j, none⟩ : Addr) = (⟨b, 0, none⟩ : Addr).add (q * sz + j) by rw [hadd, Nat.zero_add]]
         refine hown.cells (g := b) (by rw [e4]; rfl) _ u ?_
         rw [List.getElem?_take] at hj
         split at hj
         · rwa [List.getElem?_drop] at hj
         · cases hj
     · cases h
   · cases h
 · cases h
omit hT hget in
theorem run_append_any {t ty e : TypeId} {ie : TypeInfo} {z : Value} {sz bytes : Nat} (ht : P.underlying t = some (.slice e)) (hi : P.info? e = some ie) (hz : ie.zero = some z) (hs1 : ie.size = sz) (hby : ie.bytes = bytes) (hzs : z.cells.size = sz) (hsz : 0 < sz) (hb : bytes ≤ 100000)
   {v v2 : Value} {n : Nat} {old : List Value} {xs : List PV} (hown : w.ownsRow Γ.N e sz v n old)
   {ad : Option Addr} {m c : Nat} {news : List Value} (e2 : v2 = .slice ad m c) (hm : m = xs.length) (hX : RepE k s.B.length w sz xs news) (hsrc : m = 0 ∨ ∃ addr, ad = some addr ∧ ∀ j u, news[j]? = some u → w.cell? (addr.add j) = some u) (hle : Room bytes (n + m)) :
   ∃ v' w', (Builtin.append_ #[t, t] ty #[v, v2]).run P w = .ok v' w' ∧ w'.ownsRow Γ.N e sz v' (n + m) (old ++ news) ∧ w.grownBy w' v.ownBlock ∧ (v'.ownBlock = v.ownBlock ∨ v'.ownBlock = some w.heap.size) := by
 subst e2
 obtain ⟨hl, h1⟩ := RepE_len hX
 rcases hsrc with h0 | ⟨addr, rfl, hc⟩
 · subst h0
   have hx : xs = [] := List.eq_nil_of_length_eq_zero hm.symm
   subst hx
   have hnews : news = [] := List.eq_nil_of_length_eq_zero (by simpa using hl)
   subst hnews
   obtain ⟨b, cap, ev⟩ := own_form hown
   have hcap : n ≤ cap := by
     rcases hown.2 with ⟨e1, e2⟩ | ⟨bb, cap', cur, e1, _, _, e4, _⟩
     · omega
     · rw [ev] at e1; injection e1 with _ _ e1; omega
   refine ⟨v, w, ?_, by simpa using hown, ⟨rfl, rfl, rfl, Nat.le_refl _, fun _ _ _ => rfl⟩, Or.inl rfl⟩
   rw [ev]
   exact run_append_none ht hi b ad n cap c hcap
 · have hle2 : n + m ≤ 140737488355328 ∧ (n + m) * bytes ≤ 140737488355328 := by
     rcases hle with hle | hle
     · unfold most at hle
       exact ⟨by omega, Nat.le_trans (Nat.mul_le_mul hle hb) (by decide)⟩
     · exact hle
   obtain ⟨v', w', g1, g2, g3, _, g5⟩ := run_append_own_at (P := P) w Γ.N t ty e ie z sz bytes ht hi hz hs1 hby hzs hsz v n old hown addr m c news (by rw [hl, hm]) hc h1 (by simp only [maxLen]; omega) hle2.2 hI.le
   exact ⟨v', w', g1, g2, g3, g5⟩
omit hI hT hget in
theorem u8_zero {e : TypeId} {d : TD} {i : TypeInfo} (hd : tdOf P e = some d) (hi : P.info? e = some i) (h : u8B d = true) : i.zero = some (.int .u8 0) := by
 obtain ⟨i2, z, u, e1, e2, e3, e4, e5, e6, e7, _⟩ := td_facts hd
 rw [hi] at e1
 injection e1 with e1
 subst e1
 unfold u8B at h
 simp only [Bool.and_eq_true, Bool.not_eq_true'] at h
 obtain ⟨⟨h1, h2⟩, h3⟩ := h
 rw [e3]
 have ha : aggV z = false := by rw [e6, ← e7]; exact h1
 have hc : z.cells.toList = [z] := by cases z <;> first | rfl | (simp [aggV] at ha)
 rw [hc] at e4
 cases hz : constOf z with
 | none => simp [constsOf, hz] at e4
 | some iv =>
   have e8 : [iv] = d.zero := by simpa [constsOf, hz] using e4
   rw [← e8] at h3
   split at h3
   · rename_i zz hq
     injection hq with hq _
     subst hq
     have h0 := of_decide_eq_true h3
     subst h0
     clear hc ha e3 e4
     unfold constOf at hz
     split at hz <;> first | (cases hz; rfl) | (cases hz; done) | (split at hz <;> cases hz; done)
   · cases h3
omit hI hT hget in
theorem RepE_bytes {kk : K} {n : Nat} : ∀ l : List UInt8, RepE kk n w 1 ((l.map fun c => IV.int .u8 (c.toNat : Int)).map .imm) (l.map fun c => Value.int .u8 (c.toNat : Int))
 | [] => by unfold RepE; rfl
 | c :: l => by
   rw [List.map_cons, List.map_cons, List.map_cons]
   unfold RepE
   exact ⟨.int .u8 (c.toNat : Int), _, rfl, rfl, fun u hu => by have hu : u ∈ [Value.int .u8 (c.toNat : Int)] := hu; rw [List.mem_singleton.1 hu]; rfl, Rep_imm.2 (by unfold RepI; rfl), RepE_bytes l⟩
theorem does_append_str {args : Array Operand} {ts : Array TypeId} {ag : Bool} {sz0 sz bytes : Nat} {zs : List IV} {el : TypeId} {ps px : PV} (ho : o.op = .call ⟨.builtin .append, args, ts⟩) (hd : tdOf P (ts.getD 0 0) = some ⟨ag, sz0, zs, .slice el sz bytes⟩)
   (hargs : args.toList.map look = [ps, px]) (h : appS P id get el sz bytes ts ps px = some out) : Does P Γ k w a s.B o out := by
 unfold appS at h
 split at h
 · rename_i d _ _ _ b hde hdu
   split at h
   · rename_i hc
     obtain ⟨hu8, rfl, rfl, hts⟩ := hc
     obtain ⟨i, z, u, q1, q2, _, _, q5, _⟩ := td_facts hd
     obtain ⟨ie, q6, q7, q8, q9⟩ := slice_of' q5
     subst q6
     have hz := u8_zero hde q7 hu8
     obtain ⟨_, _, us, _, f2, _, _, f5, _⟩ := td_facts hdu
     have f6 := str_of f5
     subst f6
     obtain ⟨x1, x2, ha, hx1, hx2⟩ : ∃ x1 x2, args = #[x1, x2] ∧ look x1 = ps ∧ look x2 = .imm (.str b) := by
       have hl2 := congrArg List.length hargs
       rw [List.length_map] at hl2
       obtain ⟨x1, x2, hl⟩ : ∃ x1 x2, args.toList = [x1, x2] := by
         generalize args.toList = L at hl2
         match L, hl2 with
         | [x1, x2], _ => exact ⟨x1, x2, rfl⟩
       rw [hl] at hargs
       simp only [List.map_cons, List.map_nil, List.cons.injEq, and_true] at hargs
       exact ⟨x1, x2, by apply Array.ext'; simpa using hl, hargs.1, hargs.2⟩
     obtain ⟨t, ht⟩ : ∃ t, t = ts.getD 0 0 := ⟨_, rfl⟩
     obtain ⟨t2, ht2⟩ : ∃ t, t = ts.getD 1 0 := ⟨_, rfl⟩
     have hts' : ts = #[t, t2] := by
       apply Array.ext
       · simpa using hts
       · intro j h1 h2
         have h2 : j < 2 := by simpa using h2
         match j, h2 with
         | 0, _ => simp [ht, Array.getD_eq_getD_getElem?, h1]
         | 1, _ => simp [ht2, Array.getD_eq_getD_getElem?, h1]
     rw [← ht] at q2
     rw [← ht2] at f2
     have g1 := hT x1
     have g2 := hT x2
     rw [hx1] at g1
     rw [hx2] at g2
     have ev2 := imm_str g2
     have fin : ∀ (r g : Nat) (x : Blk) (es : List PV) (old : List Value), s.B[r]? = some x → k.G r = g → w.ownsRow Γ.N el 1 (a.eval x1) es.length old → RepE k s.B.length w 1 es old → es.length + b.size ≤ most →
         (a.eval x1).ownBlock = own k r x → Does P Γ k w a s.B o ⟨.row r (g + 1), [(r, .row el 1 (g + 1) (es ++ strP b))], none⟩ := by
       intro r g x es old hb hG hown hE hle hob
       unfold most at hle
       obtain ⟨v', w', r1, r2, r3, r5⟩ := Lib.run_append_own_string (P := P) w Γ.N t t2 o.type el ie q2 f2 q7 hz q8 q9 (a.eval x1) es.length old hown b (by simp only [maxLen]; omega) (by omega) hI.le
       have r4 : v'.ownBlock = (a.eval x1).ownBlock ∨ ∃ c, v'.ownBlock = some c ∧ w.heap.size ≤ c := by
         rcases hown.2 with ⟨p1, p2⟩ | ⟨c, cap, cur, p1, p2, p3, p4, p5, p6, p7⟩
         · rw [p1] at r1
           obtain ⟨v2, w2, s1, s2, s3, s5⟩ := Lib.run_append_own_string (P := P) w w.heap.size t t2 o.type el ie q2 f2 q7 hz q8 q9 (.slice none 0 0) 0 [] (World.ownsRow_nil w _ el 1) b (by simp only [maxLen]; omega) (by omega) (Nat.le_refl _)
           rw [r1] at s1
           injection s1 with s1 s1'
           subst s1; subst s1'
           rcases s2.2 with ⟨t1, _⟩ | ⟨c, _, _, t1, t3, _⟩
           · left; rw [t1, p1]
           · right; exact ⟨c, by rw [t1]; rfl, t3⟩
         · rw [p1] at r1
           by_cases hroom : es.length + b.size ≤ cap
           · have hr := Lib.run_append_room_string (P := P) w t t2 o.type el ie q2 f2 q7 q8 c es.length cap cur p3 b hroom (by rw [p6]; omega)
             rw [r1] at hr
             injection hr with hr _
             left; rw [hr, p1]; rfl
           · have hhold : ∀ j u, old[j]? = some u → w.cell? ((⟨c, 0, none⟩ : Addr).add j) = some u := hown.cells (g := c) (by rw [p1]; rfl)
             have hml : es.length + b.size ≤ maxLen := by simp only [maxLen]; omega
             have hn2 := nextslicecap_le (need := es.length + b.size) (old := cap) (by omega)
             have hr := Lib.run_append_grow_string (P := P) w t t2 o.type el ie (.int .u8 0) q2 f2 q7 hz ⟨c, 0, none⟩ es.length cap old (by rw [q8]; exact hown.1) hhold b (by omega) (by simp only [maxLen] at hml; omega) (by rw [q9]; omega)
             rw [r1] at hr
             injection hr with hr _
             right; exact ⟨w.heap.size, by rw [hr]; rfl, Nat.le_refl _⟩
       have hlt := hown.lt
       have hsl : (es ++ strP b).length = es.length + b.size := by rw [List.length_append]; simp [strP]
       obtain ⟨p1, p2⟩ := inv_put (v := v') (g := g + 1) (y := .row el 1 (g + 1) (es ++ strP b)) (w' := w') hI hb (Or.inl (by omega)) ((Below.refl _ _).grown r3 hI.le (fun b hb => (hlt b hb).1))
         (fun b hb hne => r3.block b hb (by rw [hob]; exact hne)) (fun c hc => by
           rw [own_base r2] at hc
           refine ⟨?_, (r2.lt c hc).2⟩
           rcases r4 with r4 | ⟨c', r4, r6⟩
           · right; rw [← hob, ← r4]; exact hc
           · left; rw [r4] at hc; injection hc with hc; omega) (fun hx => ⟨K.put_G _ _ _ _, old ++ Lib.strCells b, by
             rw [K.put_ρ, hsl]; exact r2, RepE_mono hx _ _ (RepE_app hE (RepE_bytes b.data.toList))⟩)
       refine does_step (v := v') ?_ p1 (by unfold setB; unfold setB; exact p2) ?_
       · rw [hts'] at ho
         simp [execOp, ho, resolve, invoke, builtin, ha, ev2, r1]
       · unfold Rep
         obtain ⟨b', c', ev⟩ := own_form r2
         exact ⟨by rw [ev]; rfl, (List.getElem?_eq_some_iff.1 hb).1, Nat.le_of_eq (K.put_G _ _ _ _).symm, fun _ => by rw [K.put_ρ]⟩
     split at h
     · split at h
       · rename_i g hg
         split at h
         · rename_i hle
           simp only [Option.some.injEq] at h
           subst h
           have hdd := hget _ _ hg
           have e1 : a.eval x1 = .slice none 0 0 := by rw [Rep_imm] at g1; unfold RepI at g1; exact g1
           exact fin id g _ [] [] hdd (hI.blk id _ hdd) (by rw [e1]; exact World.ownsRow_nil w _ el 1) (by unfold RepE; rfl) (by simpa using hle) (by rw [e1]; rfl)
         · cases h
       · cases h
     · rename_i r g
       split at h
       · rename_i e' sz' g' es hg
         split at h
         · rename_i hc2
           obtain ⟨rfl, rfl, rfl, hle⟩ := hc2
           simp only [Option.some.injEq] at h
           subst h
           have hb := hget _ _ hg
           obtain ⟨xs, ev, hown, hE, hG⟩ := ref_row hI g1 hb
           exact fin r g _ es xs hb hG (by rw [ev]; exact hown) hE hle (by rw [ev]; exact (own_base hown).symm)
         · cases h
       · cases h
     · cases h
   · cases h
 · cases h
theorem does_append {args : Array Operand} {ts : Array TypeId} (ho : o.op = .call ⟨.builtin .append, args, ts⟩) (h : absOp P Γ.eqT o id look get cr = some out) : Does P Γ k w a s.B o out := by
 unfold absOp at h
 simp only [ho] at h
 split at h
 · rename_i ag sz0 zs el sz bytes ps px hd hargs
   split at h
   · rename_i hc
     obtain ⟨htd, hsz, hby, hts, ht1⟩ := hc
     obtain ⟨d2, hd2⟩ := Option.isSome_iff_exists.1 htd
     obtain ⟨i2, z2, u2, e1, e2, e3, e4, _, _, _, e8, e9⟩ := td_facts hd2
     obtain ⟨i, z, u, q1, q2, _, _, q5, _⟩ := td_facts hd
     obtain ⟨ie, q6, q7, q8, q9⟩ := slice_of' q5
     subst q6
     rw [e1] at q7
     injection q7 with q7
     subst q7
     have hz2 : z2.cells.size = sz := by
       have := RepC_len (Q := fun _ => True) (w := default) (consts_rep e4)
       rw [Array.length_toList] at this
       omega
     obtain ⟨x1, x2, ha, hx1, hx2⟩ : ∃ x1 x2, args = #[x1, x2] ∧ look x1 = ps ∧ look x2 = px := by
       match hl : args.toList, hargs with
       | [x1, x2], hargs =>
         simp only [List.map_cons, List.map_nil, List.cons.injEq, and_true] at hargs
         exact ⟨x1, x2, by apply Array.ext'; simpa using hl, hargs.1, hargs.2⟩
     have hts' : ts = #[ts.getD 0 0, ts.getD 0 0] := by
       apply Array.ext
       · simpa using hts
       · intro j h1 h2
         have h2 : j < 2 := by simpa using h2
         have g0 : ∀ q, q < ts.size → ts.getD q 0 = ts[q]! := fun q hq => by simp [Array.getD_eq_getD_getElem?, hq]
         match j, h2 with
         | 0, _ => simp [Array.getD_eq_getD_getElem?, h1]
         | 1, _ =>
           have : ts.getD 1 0 = ts[1] := by simp [Array.getD_eq_getD_getElem?, h1]
           simp [← this, ht1]
     obtain ⟨t, ht⟩ : ∃ t, t = ts.getD 0 0 := ⟨_, rfl⟩
     rw [← ht] at hts' q2
     have f1 := hT x1
     have f2 := hT x2
     rw [hx1] at f1
     rw [hx2] at f2
     have fin : ∀ (r g : Nat) (x : Blk) (es xs : List PV) (old : List Value), s.B[r]? = some x → k.G r = g → srcP get sz px = some xs → w.ownsRow Γ.N el sz (a.eval x1) es.length old → RepE k s.B.length w sz es old → Room bytes (es.length + xs.length) →
         (a.eval x1).ownBlock = own k r x → Does P Γ k w a s.B o ⟨.row r (g + 1), [(r, .row el sz (g + 1) (es ++ xs))], none⟩ := by
       intro r g x es xs old hb hG hsrc hown hE hle hob
       obtain ⟨ad, m, c, news, g1, g2, g3, g4⟩ := src_rep hI hget hsrc f2
       obtain ⟨v', w', r1, r2, r3, r4⟩ := run_append_any (P := P) (ty := o.type) hI q2 e1 e3 q8 q9 hz2 hsz hby hown g1 g2 g3 g4 (by rw [g2]; exact hle)
       have hlt := hown.lt
       obtain ⟨p1, p2⟩ := inv_put (v := v') (g := g + 1) (y := .row el sz (g + 1) (es ++ xs)) (w' := w') hI hb (Or.inl (by omega)) ((Below.refl _ _).grown r3 hI.le (fun b hb => (hlt b hb).1))
         (fun b hb hne => r3.block b hb (by rw [hob]; exact hne)) (fun b hb => by
           rw [own_base r2] at hb
           refine ⟨?_, (r2.lt b hb).2⟩
           rcases r4 with r4 | r4
           · right; rw [← hob, ← r4]; exact hb
           · left; rw [r4] at hb; injection hb with hb; omega) (fun hx => ⟨K.put_G _ _ _ _, old ++ news, by rw [K.put_ρ, List.length_append, ← g2]; exact r2, RepE_mono hx _ _ (RepE_app hE g3)⟩)
       refine does_step (v := v') ?_ p1 (by unfold setB; unfold setB; exact p2) ?_
       · rw [hts'] at ho
         simp [execOp, ho, resolve, invoke, builtin, ha, r1]
       · unfold Rep
         obtain ⟨b', c', ev⟩ := own_form r2
         exact ⟨by rw [ev]; rfl, (List.getElem?_eq_some_iff.1 hb).1, Nat.le_of_eq (K.put_G _ _ _ _).symm, fun _ => by rw [K.put_ρ]⟩
     have fin2 : ∀ (g : Nat) (es xs : List PV) (olds news : List Value) (v' : Value) (w' : World), s.B[id]? = some (.dead g) → (Builtin.append_ #[t, t] o.type #[a.eval x1, a.eval x2]).run P w = .ok v' w' → w'.ownsRow Γ.N el sz v' (es.length + xs.length) (olds ++ news) → RepE k s.B.length w sz es olds → RepE k s.B.length w sz xs news →
         w.grownBy w' none → v'.ownBlock = some w.heap.size → Does P Γ k w a s.B o ⟨.row id (g + 1), [(id, .row el sz (g + 1) (es ++ xs))], none⟩ := by
       intro g es xs olds news v' w' hb r1 r2 hE hE2 r3 r4
       have hG : k.G id = g := hI.blk id _ hb
       obtain ⟨p1, p2⟩ := inv_put (v := v') (g := g + 1) (y := .row el sz (g + 1) (es ++ xs)) (w' := w') hI hb (Or.inl (by omega)) ((Below.refl _ _).grown r3 hI.le (fun b hb => by cases hb))
         (fun b hb hne => r3.block b hb (by simp)) (fun b hb => by
           rw [own_base r2] at hb
           refine ⟨?_, (r2.lt b hb).2⟩
           left; rw [r4] at hb; injection hb with hb; omega) (fun hx => ⟨K.put_G _ _ _ _, olds ++ news, by rw [K.put_ρ, List.length_append]; exact r2, RepE_mono hx _ _ (RepE_app hE hE2)⟩)
       refine does_step (v := v') ?_ p1 (by unfold setB; unfold setB; exact p2) ?_
       · rw [hts'] at ho
         simp [execOp, ho, resolve, invoke, builtin, ha, r1]
       · unfold Rep
         obtain ⟨b', c', ev⟩ := own_form r2
         exact ⟨by rw [ev]; rfl, (List.getElem?_eq_some_iff.1 hb).1, Nat.le_of_eq (K.put_G _ _ _ _).symm, fun _ => by rw [K.put_ρ]⟩
     split at h
     · rename_i xs hsrc
       split at h
       · split at h
         · rename_i g hg
           split at h
           · rename_i hle
             simp only [Option.some.injEq] at h
             subst h
             have hd' := hget _ _ hg
             rw [Rep_imm] at f1
             unfold RepI at f1
             have := fin id g _ [] xs [] hd' (hI.blk id _ hd') hsrc (by rw [f1]; exact World.ownsRow_nil _ _ _ _) (by simp [RepE]) (Or.inl (by simpa using hle)) (by rw [f1]; rfl)
             simpa using this
           · cases h
         · cases h
       · rename_i r g
         split at h
         · rename_i e' sz' g' es hg
           split at h
           · rename_i hc
             obtain ⟨rfl, rfl, rfl, hle, _⟩ := hc
             simp only [Option.some.injEq] at h
             subst h
             obtain ⟨old, ev, hown, hE, hG⟩ := ref_row hI f1 (hget _ _ hg)
             rw [← ev] at hown
             refine fin r g _ es xs old (hget _ _ hg) hG hsrc hown hE hle ?_
             rw [← own_base hown, ev]
             rfl
           · cases h
         · cases h
       · rename_i sz' es
         split at h
         · rename_i g hg
           split at h
           · rename_i hc
             obtain ⟨rfl, hle⟩ := hc
             have hdB := hget _ _ hg
             have hfi := f1
             unfold Rep at hfi
             obtain ⟨hfi1, a0, hfi2⟩ := hfi
             obtain ⟨ad, m, c, news, g1, g2, g3, g4⟩ := src_rep hI hget hsrc f2
             split at h
             · rename_i hx0
               simp only [val, Option.some.injEq] at h
               subst h
               have hm0 : m = 0 := by omega
               subst hm0
               refine does_value hI (v := a.eval x1) ?_ (Rep_imm.2 hfi1)
               rw [hts'] at ho
               have := run_append_none (P := P) (w := w) (ty := o.type) q2 e1 a0 ad es.length es.length c (Nat.le_refl _)
               rw [← hfi2, ← g1] at this
               simp [execOp, ho, resolve, invoke, builtin, ha, this]
             · rename_i hx0
               simp only [Option.some.injEq] at h
               subst h
               obtain ⟨addr, rfl, hcell⟩ : ∃ addr, ad = some addr ∧ ∀ j u, news[j]? = some u → w.cell? (addr.add j) = some u := g4.resolve_left (by omega)
               obtain ⟨ad1, m1, c1, olds, k1, k2, k3, k4⟩ := src_rep (sz := sz) (p := .imm (.sl sz es)) (xs := es.map .imm) hI hget (by simp [srcP]) (Rep_imm.2 hfi1)
               obtain ⟨hol, ho1⟩ := RepE_len k3
               obtain ⟨hnl, hn1⟩ := RepE_len g3
               rw [List.length_map] at hol k2
               have hby2 : i2.bytes ≤ 100000 := by omega
               have hnl2 : news.length = m * i2.size := by rw [hnl, g2, q8]
               have hle' : es.length + m ≤ 1000000000 := by unfold most at hle; omega
               have key : ∀ (cap : Nat), (Builtin.append_ #[t, t] o.type #[a.eval x1, a.eval x2]).run P w = .ok (.slice (some ⟨w.heap.size, 0, none⟩) (es.length + m) cap) (w.drew.alloc (.cells (olds.toArray ++ news.toArray ++ Builtin.zeroCells z2.cells (cap - (es.length + m))) el)) → es.length + m ≤ cap → cap ≤ maxLen →
                   Does P Γ k w a s.B o ⟨.row id (g + 1), [(id, .row el sz (g + 1) (es.map .imm ++ xs))], none⟩ := by
                 intro cap hrun hc1 hc2
                 refine fin2 g (es.map .imm) xs olds news _ _ hdB hrun ?_ k3 g3 ⟨rfl, rfl, rfl, by simp, fun k hk _ => (MapKept.heap_alloc w.drew _).2 k hk⟩ rfl
                 rw [List.length_map, ← g2]
                 refine ⟨by rw [List.length_append, hol, hnl, ← g2, Nat.add_mul], .inr ⟨w.heap.size, _, _, rfl, hI.le, heap_alloc_new w.drew _, hc1, hc2, ?_, ?_⟩⟩
                 · simp only [Array.size_append, List.size_toArray, size_zeroCells, hz2, hol, hnl, ← g2, ← Nat.add_mul]
                   congr 1
                   omega
                 · have hlen : (olds ++ news).length = (es.length + m) * sz := by rw [List.length_append, hol, hnl, ← g2, Nat.add_mul]
                   simp only [Array.toList_append, List.append_assoc]
                   rw [← List.append_assoc, ← hlen]
                   exact List.take_left
               have h63 : ((es.length + m : Nat) : Int) ≤ 9223372036854775807 := by omega
               have hml : es.length + m ≤ maxLen := by simp only [maxLen]; omega
               cases a0 with
               | none =>
                 have he0 : es.length = 0 := by
                   rcases Nat.eq_zero_or_pos es.length with h0 | h0
                   · exact h0
                   · rcases k4 with k4 | ⟨q, k4, _⟩
                     · omega
                     · rw [hfi2] at k1
                       injection k1 with k1 _ _
                       rw [k4] at k1
                       cases k1
                 have hes : es = [] := List.eq_nil_of_length_eq_zero he0
                 subst hes
                 have holds : olds = [] := List.eq_nil_of_length_eq_zero (by rw [hol]; simp)
                 subst holds
                 have hr := run_append_nil (P := P) w t o.type el i2 z2 q2 e1 e3 addr m c news hnl2 hcell (by omega) (by omega) (by
                   calc m * i2.bytes ≤ 1000000000 * 100000 := Nat.mul_le_mul (by omega) hby2
                     _ ≤ 281474976710656 := by decide)
                 refine key (grownCap w m 0 el) ?_ (by simpa using grownCap_ge w m 0 el) (grownCap_le_maxLen w m 0 el (by simpa using hml))
                 rw [hfi2, g1]
                 simpa using hr
               | some b0 =>
                 have hsl : (∀ j v, olds[j]? = some v → w.cell? (b0.add j) = some v) := by
                   rcases k4 with k4 | ⟨q, k4, kc⟩
                   · intro j v hj
                     have : olds = [] := List.eq_nil_of_length_eq_zero (by rw [hol, ← k2, k4]; simp)
                     rw [this] at hj
                     simp at hj
                   · rw [hfi2] at k1
                     injection k1 with k1 _ _
                     rw [k4] at k1
                     injection k1 with k1
                     subst k1
                     exact kc
                 have hr := run_append_grow (P := P) w t o.type el i2 z2 q2 e1 e3 b0 es.length es.length olds (by rw [hol, q8]) hsl addr m c news hnl2 hcell (by omega) h63 (by
                   have hn2 := nextslicecap_le (need := es.length + m) (old := es.length) (by omega)
                   calc Builtin.nextslicecap (es.length + m) es.length * i2.bytes ≤ 2000000000 * 100000 := Nat.mul_le_mul (by omega) hby2
                     _ ≤ 281474976710656 := by decide)
                 refine key (grownCap w (es.length + m) es.length el) ?_ (grownCap_ge _ _ _ _) (grownCap_le_maxLen _ _ _ _ hml)
                 rw [hfi2, g1]
                 exact hr
           · cases h
         · cases h
       · cases h
     · cases h
   · exact does_append_str hI hT hget ho hd hargs h
 · cases h
end
end Go.Pv
namespace Go.Pv
open Go.RowKit (Below)
open Go.MapKept (IsKey)
theorem bool_of {P : Program} {u : TypeDesc} (hk : kindOf P u = some .bool) : u = .bool := by
 unfold kindOf at hk
 split at hk <;> first | rfl | (cases hk; done) | (rename_i n e'; cases hq : P.info? e' <;> rw [hq] at hk <;> cases hk; done) | skip
 · rename_i fields
   cases hq : fieldsOf P fields.toList with
   | none => rw [hq] at hk; cases hk
   | some gs => rw [hq] at hk; cases hk
theorem map_of {P : Program} {u : TypeDesc} {k e : TypeId} (hk : kindOf P u = some (.map k e)) : u = .map k e := by
 unfold kindOf at hk
 split at hk <;> first | (cases hk; rfl) | (cases hk; done) | (rename_i n e'; cases hq : P.info? e' <;> rw [hq] at hk <;> cases hk; done) | skip
 · rename_i fields
   cases hq : fieldsOf P fields.toList with
   | none => rw [hq] at hk; cases hk
   | some gs => rw [hq] at hk; cases hk
inductive DK : TypeDesc → MK → Prop
 | int (q : IntKind) : DK (.int q) (.int q)
 | str : DK .string .str
 | bool : DK .bool .bool
theorem ck_of {P : Program} {T : TypeId → Option (List CK)} {k : TypeId} {kk : MK} (h : (tdOf P k).bind (ckOf T k) = some kk) : isIter kk = false ∧ ∃ u, P.underlying k = some u ∧ (DK u kk ∨ ∃ fs ks, u = .struct fs ∧ T k = some ks ∧ kk = .cells k ks) := by
 cases hd : tdOf P k with
 | none => rw [hd] at h; cases h
 | some d =>
   rw [hd] at h
   simp only [Option.bind_some] at h
   obtain ⟨_, _, u, _, g1, _, _, g2, _⟩ := td_facts hd
   unfold ckOf at h
   split at h
   · cases h; exact ⟨rfl, u, g1, Or.inl (by rw [int_of g2]; exact .int _)⟩
   · cases h; exact ⟨rfl, u, g1, Or.inl (by rw [str_of g2]; exact .str)⟩
   · cases h; exact ⟨rfl, u, g1, Or.inl (by rw [bool_of g2]; exact .bool)⟩
   · cases hq : T k with
     | none => rw [hq] at h; cases h
     | some ks =>
       rw [hq] at h
       simp only [Option.map_some, Option.some.injEq] at h
       subst h
       obtain ⟨fs, hfs, _⟩ := struct_of g2
       exact ⟨rfl, u, g1, Or.inr ⟨fs, ks, hfs, rfl, rfl⟩⟩
   · cases h
theorem key_is {Q : Nat → Prop} {w : World} {u : TypeDesc} {kk : MK} (hd : DK u kk) {a : IV} {v : Value} (hk : keyB kk a = true) (ha : RepI Q w a v) : IsKey u v := by
 cases hd <;> cases a <;> (try (simp [keyB] at hk; done)) <;> (unfold RepI at ha; subst ha; simp [IsKey, keyB] at hk ⊢) <;> exact hk.symm
theorem same_key {Q : Nat → Prop} {w : World} {u : TypeDesc} {kk : MK} (hd : DK u kk) {a x : IV} {va vx : Value} (h1 : keyB kk a = true) (h2 : keyB kk x = true) (ha : RepI Q w a va) (hx : RepI Q w x vx) : Instr.sameNow u va vx = some (eqI x a) ∧ (eqI x a = true ↔ vx = va) := by
 cases hd with
 | int q =>
   cases a <;> (try (simp [keyB] at h1; done))
   cases x <;> (try (simp [keyB] at h2; done))
   rename_i q1 z1 q2 z2
   obtain rfl : q = q1 := by simpa [keyB] using h1
   obtain rfl : q = q2 := by simpa [keyB] using h2
   unfold RepI at ha hx
   subst ha; subst hx
   refine ⟨by simp [Instr.sameNow, eqI, eq_comm, BEq.beq], by simp [eqI]⟩
 | str =>
   cases a <;> (try (simp [keyB] at h1; done))
   cases x <;> (try (simp [keyB] at h2; done))
   unfold RepI at ha hx
   subst ha; subst hx
   rename_i s1 s2
   refine ⟨?_, by simp [eqI]⟩
   show some (s1 == s2) = _
   congr 1
   have := MapKept.bytes_beq s1 s2
   by_cases h : s1 = s2
   · rw [this.2 h]; simp [eqI, h]
   · have h3 : (s1 == s2) = false := by
       cases hb : (s1 == s2) with
       | true => exact absurd (this.1 hb) h
       | false => rfl
     rw [h3]; simp [eqI, Ne.symm h]
 | bool =>
   cases a <;> (try (simp [keyB] at h1; done))
   cases x <;> (try (simp [keyB] at h2; done))
   unfold RepI at ha hx
   subst ha; subst hx
   refine ⟨?_, by simp [eqI]⟩
   rename_i b1 b2
   cases b1 <;> cases b2 <;> rfl
theorem RepM_len {Q : Nat → Prop} {w : World} : ∀ {ps : List (IV × IV)} {es : List MapEntry}, RepM Q w ps es → es.length = ps.length
 | [], es, h => by unfold RepM at h; subst h; rfl
 | (a, b) :: ps, es, h => by
   unfold RepM at h
   obtain ⟨e, r, h0, _, _, h3⟩ := h
   subst h0
   rw [List.length_cons, List.length_cons, RepM_len h3]
theorem find_all {Q : Nat → Prop} {w : World} {kk : MK} {a : IV} {va : Value} (ha : RepI Q w a va) (R : List MapEntry → Nat → Result (Option (Nat × Value))) (hnil : ∀ i, R [] i = .ok none w)
   (hcons : ∀ (e : MapEntry) (es : List MapEntry) (i : Nat) (x : IV), keyB kk x = true → RepI Q w x e.key → R (e :: es) i = (if eqI x a then .ok (some (i, e.val)) w else R es (i + 1)) ∧ (eqI x a = true ↔ e.key = va)) :
   ∀ {ps : List (IV × IV)} {es : List MapEntry} (i : Nat), RepM Q w ps es → keysB kk ps = true →
   (R es i = .ok none w ∧ lookM ps a = none ∧ (∀ x ∈ es, x.key ≠ va) ∧ delM ps a = ps ∧ ∀ b vb c, RepI Q w b vb → RepM Q w (putM ps a b) (es ++ [⟨va, vb, c⟩])) ∨
   ∃ j e y, R es i = .ok (some (i + j, e.val)) w ∧ es[j]? = some e ∧ e.key = va ∧ lookM ps a = some y ∧ RepI Q w y e.val ∧ RepM Q w (delM ps a) (es.eraseIdx j) ∧ ∀ b vb, RepI Q w b vb → RepM Q w (putM ps a b) (es.set j ⟨va, vb, e.born⟩)
 | [], es, i, h, _ => by
   unfold RepM at h; subst h
   refine Or.inl ⟨hnil i, rfl, by simp, rfl, fun b vb c hb => ?_⟩
   unfold putM RepM
   exact ⟨_, [], rfl, ha, hb, by unfold RepM; rfl⟩
 | (x, y) :: ps, es, i, h, hk => by
   unfold RepM at h
   unfold keysB at hk
   rw [Bool.and_eq_true] at hk
   obtain ⟨e, r, h0, hx, hy, h3⟩ := h
   subst h0
   obtain ⟨hs, hiff⟩ := hcons e r i x hk.1 hx
   unfold lookM delM
   cases hq : eqI x a with
   | true =>
     refine Or.inr ⟨0, e, y, by rw [hs, hq]; rfl, rfl, hiff.1 hq, rfl, hy, h3, fun b vb hb => ?_⟩
     unfold putM
     rw [hq]
     simp only [if_true, List.set_cons_zero]
     unfold RepM
     exact ⟨_, r, rfl, (hiff.1 hq) ▸ hx, hb, h3⟩
   | false =>
     have hne : e.key ≠ va := fun hke => by have := hiff.2 hke; rw [hq] at this; cases this
     rw [hq] at hs
     simp only [Bool.false_eq_true, if_false] at hs ⊢
     rcases find_all ha R hnil hcons (i + 1) h3 hk.2 with ⟨g1, g2, g3, g4, g5⟩ | ⟨j, e', y', g1, g2, g3, g4, g5, g6, g7⟩
     · refine Or.inl ⟨hs.trans g1, g2, fun z hz => ?_, by rw [g4], fun b vb c hb => ?_⟩
       · rcases List.mem_cons.1 hz with rfl | hz
         · exact hne
         · exact g3 z hz
       · unfold putM
         rw [hq]
         simp only [Bool.false_eq_true, if_false]
         rw [List.cons_append]
         unfold RepM
         exact ⟨e, _, rfl, hx, hy, g5 b vb c hb⟩
     · refine Or.inr ⟨j + 1, e', y', by rw [hs, g1]; congr 3; omega, by simpa using g2, g3, g4, g5, ?_, fun b vb hb => ?_⟩
       · rw [List.eraseIdx_cons_succ]
         unfold RepM
         exact ⟨e, _, rfl, hx, hy, g6⟩
       · unfold putM
         rw [hq]
         simp only [Bool.false_eq_true, if_false]
         rw [List.set_cons_succ]
         unfold RepM
         exact ⟨e, _, rfl, hx, hy, g7 b vb hb⟩
structure KeyOK (P : Program) (kt : TypeId) (kk : MK) : Prop where
 it : isIter kk = false
 check : ∀ {Q : Nat → Prop} {w : World} {a : IV} {va : Value} (em : Bool), keyB kk a = true → RepI Q w a va → (Instr.checkKey em 10000 kt va).run P w = .ok () w
 stays : ∀ {Q : Nat → Prop} {w : World} {a : IV} {va : Value}, keyB kk a = true → RepI Q w a va → (Instr.keyThatStays va va).run P w = .ok va w
 find : ∀ {Q : Nat → Prop} {w : World} {a : IV} {va : Value} {ps : List (IV × IV)} {es : List MapEntry}, keyB kk a = true → RepI Q w a va → RepM Q w ps es → keysB kk ps = true →
   ((Instr.findKey kt va es).run P w = .ok none w ∧ lookM ps a = none ∧ (∀ x ∈ es, x.key ≠ va) ∧ delM ps a = ps ∧ ∀ b vb c, RepI Q w b vb → RepM Q w (putM ps a b) (es ++ [⟨va, vb, c⟩])) ∨
   ∃ j e y, (Instr.findKey kt va es).run P w = .ok (some (j, e.val)) w ∧ es[j]? = some e ∧ e.key = va ∧ lookM ps a = some y ∧ RepI Q w y e.val ∧ RepM Q w (delM ps a) (es.eraseIdx j) ∧ ∀ b vb, RepI Q w b vb → RepM Q w (putM ps a b) (es.set j ⟨va, vb, e.born⟩)
theorem eqC_comm : ∀ {a b : List IV} {ks : List CK}, shapeB a ks = true → shapeB b ks = true → eqC a b = eqC b a
 | [], [], _, _, _ => rfl
 | [], _ :: _, [], _, h => by simp [shapeB] at h
 | [], _, _ :: _, h, _ => by simp [shapeB] at h
 | _ :: _, _, [], h, _ => by simp [shapeB] at h
 | _ :: _, [], _ :: _, _, h => by simp [shapeB] at h
 | x :: a, y :: b, k :: ks, h1, h2 => by
   cases x <;> cases k <;> (try (simp [shapeB] at h1; done)) <;> cases y <;> (try (simp [shapeB] at h2; done))
   · simp only [shapeB] at h1 h2
     simp only [eqC, eqC_comm h1 h2]
     congr 1
     rename_i u v; cases u <;> cases v <;> rfl
   · simp only [shapeB, Bool.and_eq_true] at h1 h2
     simp only [eqC, eqC_comm h1.2 h2.2]
     congr 1
     exact decide_eq_decide.2 eq_comm
   · simp only [shapeB] at h1 h2
     simp only [eqC, eqC_comm h1 h2]
     congr 1
     exact decide_eq_decide.2 eq_comm
theorem eqC_iff {Q : Nat → Prop} {w : World} : ∀ {a b : List IV} {ks : List CK} {xs ys : List Value}, shapeB a ks = true → shapeB b ks = true → RepC Q w a xs → RepC Q w b ys → (eqC a b = true ↔ xs = ys)
 | [], [], _, xs, ys, _, _, h3, h4 => by unfold RepC at h3 h4; subst h3; subst h4; simp [eqC]
 | [], _ :: _, [], _, _, _, h, _, _ => by simp [shapeB] at h
 | [], _, _ :: _, _, _, h, _, _, _ => by simp [shapeB] at h
 | _ :: _, _, [], _, _, h, _, _, _ => by simp [shapeB] at h
 | _ :: _, [], _ :: _, _, _, _, h, _, _ => by simp [shapeB] at h
 | x :: a, y :: b, k :: ks, xs, ys, h1, h2, h3, h4 => by
   unfold RepC at h3 h4
   obtain ⟨v, r, rfl, _, g1, g2⟩ := h3
   obtain ⟨v', r', rfl, _, g3, g4⟩ := h4
   cases x <;> cases k <;> (try (simp [shapeB] at h1; done)) <;> cases y <;> (try (simp [shapeB] at h2; done))
   · simp only [shapeB] at h1 h2
     unfold RepI at g1 g3
     subst g1; subst g3
     simp [eqC, eqC_iff h1 h2 g2 g4]
   · simp only [shapeB, Bool.and_eq_true, decide_eq_true_eq] at h1 h2
     unfold RepI at g1 g3
     subst g1; subst g3
     obtain ⟨rfl, h1⟩ := h1
     obtain ⟨rfl, h2⟩ := h2
     simp [eqC, eqC_iff h1 h2 g2 g4]
   · simp only [shapeB] at h1 h2
     unfold RepI at g1 g3
     subst g1; subst g3
     simp [eqC, eqC_iff h1 h2 g2 g4]
theorem same_cells {Q : Nat → Prop} {w : World} : ∀ {a : List IV} {ks : List CK} {xs : List Value} (n : Nat), shapeB a ks = true → RepC Q w a xs → (xs.zip xs).all (fun x => Instr.sameBits n x.1 x.2) = true
 | [], _, xs, n, _, h => by unfold RepC at h; subst h; rfl
 | _ :: _, [], _, _, h, _ => by simp [shapeB] at h
 | x :: a, k :: ks, xs, n, h1, h3 => by
   unfold RepC at h3
   obtain ⟨v, r, rfl, _, g1, g2⟩ := h3
   cases x <;> cases k <;> (try (simp [shapeB] at h1; done))
   · simp only [shapeB] at h1
     unfold RepI at g1
     subst g1
     rw [List.zip_cons_cons, List.all_cons, same_cells n h1 g2, Bool.and_true]
     simp [Instr.sameBits]
   · simp only [shapeB, Bool.and_eq_true, decide_eq_true_eq] at h1
     unfold RepI at g1
     subst g1
     rw [List.zip_cons_cons, List.all_cons, same_cells n h1.2 g2, Bool.and_true]
     simp [Instr.sameBits]
   · simp only [shapeB] at h1
     unfold RepI at g1
     subst g1
     rw [List.zip_cons_cons, List.all_cons, same_cells n h1 g2, Bool.and_true]
     simp [Instr.sameBits, MapKept.bytes_beq]
theorem key_ok {P : Program} {T : TypeId → Option (List CK)} (hX : EqsOK P T) {kt : TypeId} {kk : MK} (h : (tdOf P kt).bind (ckOf T kt) = some kk) : KeyOK P kt kk := by
 obtain ⟨hit, u, hu, hd | ⟨fs, ks, rfl, hT, rfl⟩⟩ := ck_of h
 · refine ⟨hit, fun em hk ha => MapKept.run_checkKey hu (key_is hd hk ha) em 9999, fun hk ha => MapKept.run_keyThatStays (key_is hd hk ha), fun {Q w a va ps es} hk ha hm hks => ?_⟩
   have hR := find_all ha (fun es i => match Instr.findNow u va es i with
     | some r => Result.ok r w
     | none => Result.halt (.stuck "") w) (fun i => rfl) (fun e es i x h1 h2 => by
       obtain ⟨g1, g2⟩ := same_key hd hk h1 ha h2
       refine ⟨?_, g2⟩
       simp only [Instr.findNow, g1]
       cases eqI x a <;> simp) 0 hm hks
   have hrun : ∀ r, (match Instr.findNow u va es 0 with
     | some r => Result.ok r w
     | none => Result.halt (.stuck "") w) = .ok r w → (Instr.findKey kt va es).run P w = .ok r w := by
     intro r hr
     cases hq : Instr.findNow u va es 0 with
     | none => rw [hq] at hr; cases hr
     | some r' =>
       rw [hq] at hr
       injection hr with hr
       subst hr
       exact MapKept.run_findKey hu hq
   rcases hR with ⟨g1, g2⟩ | ⟨j, e, y, g1, g2⟩
   · exact Or.inl ⟨hrun _ g1, g2⟩
   · exact Or.inr ⟨j, e, y, by have := hrun _ g1; rw [Nat.zero_add] at this; exact this, g2⟩
 · refine ⟨rfl, fun {Q w a va} em hk ha => ?_, fun {Q w a va} hk ha => ?_, fun {Q w a va ps es} hk ha hm hks => ?_⟩
   · cases a <;> (try (simp [keyB] at hk; done))
     rename_i cs
     obtain ⟨xs, rfl, hc⟩ := RepI_agg.1 ha
     exact (hX kt ks hT w (.tmp 0) (.tmp 0) cs cs xs xs Q hk hk hc hc).2.2.2 em
   · cases a <;> (try (simp [keyB] at hk; done))
     rename_i cs
     obtain ⟨xs, rfl, hc⟩ := RepI_agg.1 ha
     have hs : Instr.sameBits 10000 (.agg xs.toArray) (.agg xs.toArray) = true := by
       have := same_cells 9999 hk hc
       simpa [Instr.sameBits] using this
     simp [Instr.keyThatStays, hs]
   · cases a <;> (try (simp [keyB] at hk; done))
     rename_i cs
     obtain ⟨xs, rfl, hc⟩ := RepI_agg.1 ha
     have hR := find_all (kk := .cells kt ks) ha (fun es i => (Instr.findAsking kt (.agg xs.toArray) es i).run P w) (fun i => rfl) (fun e es i x h1 h2 => by
       cases x <;> (try (simp [keyB] at h1; done))
       rename_i ds
       obtain ⟨ys, hy, hd⟩ := RepI_agg.1 h2
       have he := (hX kt ks hT w (.tmp 0) (.tmp 0) cs ds xs ys Q hk h1 hc hd).2.2.1
       have hq : eqI (.agg ds) (.agg cs) = eqC cs ds := eqC_comm h1 hk
       rw [hq]
       refine ⟨?_, (eqC_iff hk h1 hc hd).trans ⟨fun h => by rw [hy, h], fun h => ?_⟩⟩
       · simp only [Instr.findAsking, hy, Sem.run_bind, he, Result.andThen]
         cases eqC cs ds <;> rfl
       · rw [hy] at h
         injection h with h
         exact (List.toArray_inj h).symm) 0 hm hks
     rw [run_findKey_eq w (by rw [hu]) (.agg xs.toArray) es]
     simpa using hR
theorem keys_put {kk : MK} {a b : IV} (h1 : keyB kk a = true) : ∀ {ps : List (IV × IV)}, keysB kk ps = true → keysB kk (putM ps a b) = true
 | [], _ => by simp [putM, keysB, h1]
 | (x, y) :: ps, hk => by
   unfold keysB at hk
   rw [Bool.and_eq_true] at hk
   unfold putM
   split
   · unfold keysB; rw [hk.1, hk.2]; rfl
   · unfold keysB; rw [hk.1, keys_put h1 hk.2]; rfl
theorem keys_del {kk : MK} {a : IV} : ∀ {ps : List (IV × IV)}, keysB kk ps = true → keysB kk (delM ps a) = true
 | [], _ => rfl
 | (x, y) :: ps, hk => by
   unfold keysB at hk
   rw [Bool.and_eq_true] at hk
   unfold delM
   split
   · exact hk.2
   · unfold keysB; rw [hk.1, keys_del hk.2]; rfl
section
variable {Γ : Ctx} {k : K} {w : World} {s : St} (hI : Inv Γ k s.B w)
include hI
theorem ref_map {r g : Nat} {kk : MK} {ps : List (IV × IV)} {v : Value} (h : Rep k s.B.length w (.row r g) v) (hb : s.B[r]? = some (.map kk g ps)) (hit : isIter kk = false) :
   ∃ b es clock, v = .map (some b) ∧ w.heap[b]? = some (.map es clock) ∧ RepM k.Q w ps es.toList ∧ keysB kk ps = true ∧ MapKept.Stamped es clock ∧ k.ρ r = .map (some b) ∧ Γ.N ≤ b ∧ k.G r = g := by
 unfold Rep at h
 obtain ⟨_, _, _, h3⟩ := h
 obtain ⟨g1, hmr⟩ := hI.blk r _ hb
 obtain ⟨b, es, clock, e1, e2, e3, e4, e5, e6⟩ := (MapRep_map hit).1 hmr
 exact ⟨b, es, clock, (h3 g1.symm).trans e1, e3, e4, e5, e6, e1, e2, g1⟩
end
section
variable {P : Program} {Γ : Ctx} {k : K} {w : World} {a : Act} {s : St} (hI : Inv Γ k s.B w) {look : Operand → PV} (hT : ∀ x, Rep k s.B.length w (look x) (a.eval x)) {o : Oper} {id : Nat} {get : Nat → Option Blk} {cr : List Orc} {out : Out} (hget : ∀ r b, get r = some b → s.B[r]? = some b)
include hI hT hget
omit hT in
theorem does_makeMap {t : TypeId} (ho : o.op = .makeMap t none) (h : absOp P Γ.eqT o id look get cr = some out) : Does P Γ k w a s.B o out := by
 unfold absOp at h
 simp only [ho] at h
 split at h
 · rename_i kt _ g hd hg
   split at h
   · rename_i kk hk
     simp only [Option.some.injEq] at h
     subst h
     have hdd := hget _ _ hg
     have hG : k.G id = g := hI.blk id _ hdd
     obtain ⟨h1, h2⟩ := inv_put (v := .map (some w.heap.size)) (g := g + 1) (y := .map kk (g + 1) []) (w' := w.alloc (.map #[] 0)) hI hdd (Or.inl (by omega)) ((Below.refl _ _).alloc hI.le _)
       (fun b hb _ => Below.heap_alloc _ _ _ hb) (fun b hb => by
         injection hb with hb
         subst hb
         exact ⟨Or.inl (Nat.le_refl _), by simp⟩) (fun hx => by
         exact ⟨K.put_G _ _ _ _, (MapRep_map (ck_of hk).1).2 ⟨w.heap.size, #[], 0, K.put_ρ _ _ _ _, hI.le, heap_alloc_new w _, by unfold RepM; rfl, rfl, MapKept.stamped_empty 0⟩⟩)
     refine does_step (v := .map (some w.heap.size)) (w' := w.alloc (.map #[] 0)) ?_ h1 (by unfold setB; unfold setB; exact h2) ?_
     · have : (Instr.makeMap t none).run P w = .ok (.map (some w.heap.size)) (w.alloc (.map #[] 0)) := rfl
       simp [execOp, ho, this]
     · unfold Rep
       refine ⟨rfl, (List.getElem?_eq_some_iff.1 hdd).1, Nat.le_of_eq (K.put_G _ _ _ _).symm, fun _ => ?_⟩
       rw [K.put_ρ]
   · cases h
 · cases h
omit hI hT hget in
theorem zero_rep {Q : Nat → Prop} {e : TypeId} {d : TD} (he : tdOf P e = some d) : ∃ z, (zeroValue e).run P w = .ok z w ∧ RepI Q w (zeroI d) z := by
 obtain ⟨i, z, u, h1, h2, h3, h4, h5, h6, h7, h8, h9⟩ := td_facts he
 refine ⟨z, run_zero h1 h3, ?_⟩
 have hc := consts_rep (Q := Q) (w := w) h4
 unfold zeroI
 cases hz : z with
 | agg vs =>
   rw [hz] at h6 hc
   have : d.agg = true := by rw [h7, ← h6]; rfl
   rw [this, if_pos rfl, RepI_agg]
   exact ⟨vs.toList, by simp, hc⟩
 | _ =>
   have ha : d.agg = false := by rw [h7, ← h6, hz]; rfl
   rw [ha]
   simp only [Bool.false_eq_true, if_false]
   rw [hz] at hc
   revert hc
   cases hdz : d.zero with
   | nil => intro hc; unfold RepC at hc; cases hc
   | cons q qs =>
     intro hc
     unfold RepC at hc
     obtain ⟨v, r, e1, _, e2, _⟩ := hc
     simp [Value.cells] at e1
     rw [← e1.1] at e2
     exact e2
omit hI hT hget in
theorem RepC_ones {Q : Nat → Prop} : ∀ {is : List IV} {vs : List Value}, RepC Q w is vs → ∀ u ∈ vs, one u
 | [], vs, h => by unfold RepC at h; subst h; simp
 | c :: cs, vs, h => by
   unfold RepC at h
   obtain ⟨v, r, e, h1, _, h3⟩ := h
   subst e
   intro u hu
   rcases List.mem_cons.1 hu with rfl | hu
   · exact h1
   · exact RepC_ones h3 u hu
omit hI hT hget in
theorem zero_is {Q : Nat → Prop} {e : TypeId} {d : TD} (he : tdOf P e = some d) : ∃ i z, P.info? e = some i ∧ i.zero = some z ∧ RepI Q w (zeroI d) z ∧ z.cells.size = i.size ∧ ∀ u ∈ z.cells.toList, one u := by
 obtain ⟨i, z, u, h1, h2, h3, h4, h5, h6, h7, h8, h9⟩ := td_facts he
 have hc := consts_rep (Q := Q) (w := w) h4
 refine ⟨i, z, h1, h3, ?_, ?_, RepC_ones hc⟩
 · unfold zeroI
   cases hz : z with
   | agg vs =>
     rw [hz] at h6 hc
     have : d.agg = true := by rw [h7, ← h6]; rfl
     rw [this, if_pos rfl, RepI_agg]
     exact ⟨vs.toList, by simp, hc⟩
   | _ =>
     have ha : d.agg = false := by rw [h7, ← h6, hz]; rfl
     rw [ha]
     simp only [Bool.false_eq_true, if_false]
     rw [hz] at hc
     revert hc
     cases hdz : d.zero with
     | nil => intro hc; unfold RepC at hc; cases hc
     | cons q qs =>
       intro hc
       unfold RepC at hc
       obtain ⟨v, r, e1, _, e2, _⟩ := hc
       simp [Value.cells] at e1
       rw [← e1.1] at e2
       exact e2
 · have hl : ∀ {is : List IV} {vs : List Value}, RepC Q w is vs → vs.length = is.length := by
     intro is
     induction is with
     | nil => intro vs h; unfold RepC at h; subst h; rfl
     | cons c cs ih =>
       intro vs h
       unfold RepC at h
       obtain ⟨v, r, e, _, _, h3⟩ := h
       subst e
       rw [List.length_cons, List.length_cons, ih h3]
   rw [← h9, ← hl hc, Array.length_toList]
omit hI hT hget in
theorem made_list {cs : Array Value} {sz : Nat} (h : cs.size = sz) (hp : 0 < sz) : ∀ c : Nat, (madeCells cs (c * sz)).toList = (List.replicate c cs.toList).flatten
 | 0 => by simp [madeCells]
 | c + 1 => by
   have ih := made_list h hp c
   have e1 : (madeCells cs (c * sz)).toList = (List.range (c * sz)).map fun i => cs[i % cs.size]! := by
     unfold madeCells; rw [Array.toList_map, Array.toList_range]
   have e2 : (madeCells cs ((c + 1) * sz)).toList = (List.range ((c + 1) * sz)).map fun i => cs[i % cs.size]! := by
     unfold madeCells; rw [Array.toList_map, Array.toList_range]
   rw [e2, Nat.succ_mul, List.range_add, List.map_append, ← e1, ih, List.replicate_succ', List.flatten_append, List.flatten_singleton]
   congr 1
   apply List.ext_getElem
   · simp [h]
   · intro i h1 h2
     simp only [List.getElem_map, List.getElem_range]
     have hi : i < cs.size := by simpa using h2
     have : (c * sz + i) % cs.size = i := by rw [h, Nat.mul_comm, Nat.mul_add_mod]; exact Nat.mod_eq_of_lt (by rw [← h]; exact hi)
     rw [this, getElem!_pos cs i hi]
     simp
omit hI hT hget in
theorem RepE_zeros {kk : K} {n sz : Nat} {i : IV} {z : Value} (hr : RepI kk.Q w i z) (hs : z.cells.size = sz) (h1 : ∀ u ∈ z.cells.toList, one u) : ∀ l : Nat, RepE kk n w sz (List.replicate l (.imm i)) (List.replicate l z.cells.toList).flatten
 | 0 => by simp [RepE]
 | l + 1 => by
   rw [List.replicate_succ, List.replicate_succ, List.flatten_cons]
   unfold RepE
   exact ⟨z, _, rfl, hs, h1, Rep_imm.2 hr, RepE_zeros hr hs h1 l⟩
theorem does_makeSlice {t : TypeId} {l c : Operand} (ho : o.op = .makeSlice t l c) (h : absOp P Γ.eqT o id look get cr = some out) : Does P Γ k w a s.B o out := by
 unfold absOp at h
 simp only [ho] at h
 split at h
 · rename_i ag sz0 zs el sz bytes g k1 z k2 y hd hg hl hc
   split at h
   · rename_i d2 hd2
     split at h
     · rename_i hcc
       obtain ⟨hsz, hby, hz0, hzy, hym⟩ := hcc
       simp only [Option.some.injEq] at h
       subst h
       obtain ⟨i, zz, u, g1, g2, _, _, g5, _⟩ := td_facts hd
       obtain ⟨ie, q6, q7, q8, q9⟩ := slice_of' g5
       subst q6
       have e1 := hT l
       rw [hl] at e1
       have e2 := hT c
       rw [hc] at e2
       have ev1 := imm_int e1
       have ev2 := imm_int e2
       have hdd := hget _ _ hg
       have hG : k.G id = g := hI.blk id _ hdd
       obtain ⟨ie2, z0, p1, p2, p3, p4, p5⟩ := zero_is (Q := k.Q) (w := w) hd2
       rw [q7] at p1
       injection p1 with p1
       subst p1
       rw [q8] at p4
       unfold most at hym
       have hyn : (y.toNat : Int) = y := Int.toNat_of_nonneg (by omega)
       have hzn : (z.toNat : Int) = z := Int.toNat_of_nonneg hz0
       have hyN : y.toNat ≤ 1000000000 := by omega
       have hzN : z.toNat ≤ y.toNat := by omega
       have hbN : ie.bytes * y.toNat ≤ 281474976710656 := by
         rw [q9]
         calc bytes * y.toNat ≤ 100000 * 1000000000 := Nat.mul_le_mul hby hyN
           _ ≤ 281474976710656 := by decide
       have hb : (ie.bytes : Int) * y ≤ 281474976710656 := by
         have : ((ie.bytes * y.toNat : Nat) : Int) ≤ 281474976710656 := by omega
         rw [Int.natCast_mul, hyn] at this
         exact this
       have hrun := run_make (P := P) w t el ie z0 g2 q7 p2 k1 k2 z y hz0 hzy hb (by omega)
       rw [q8] at hrun
       have hrun2 : (execOp a.eval o).run P w = .ok (.value (.slice (some ⟨w.heap.size, 0, none⟩) z.toNat y.toNat)) (w.alloc (.cells (madeCells z0.cells (y.toNat * sz)) el)) := by
         simp [execOp, ho, ev1, ev2, hrun]
       have hlen : ((List.replicate z.toNat z0.cells.toList).flatten).length = z.toNat * sz := by
         rw [List.length_flatten, List.map_replicate, List.sum_replicate_nat, Array.length_toList, p4]
       have hown : (w.alloc (.cells (madeCells z0.cells (y.toNat * sz)) el)).ownsRow Γ.N el sz (.slice (some ⟨w.heap.size, 0, none⟩) z.toNat y.toNat) z.toNat (List.replicate z.toNat z0.cells.toList).flatten := by
         refine ⟨hlen, Or.inr ⟨w.heap.size, y.toNat, madeCells z0.cells (y.toNat * sz), rfl, hI.le, heap_alloc_new w _, hzN, ?_, size_madeCells _ _, ?_⟩⟩
         · simp only [maxLen]
           omega
         · rw [made_list p4 hsz]
           have hsp : List.replicate y.toNat z0.cells.toList = List.replicate z.toNat z0.cells.toList ++ List.replicate (y.toNat - z.toNat) z0.cells.toList := by
             rw [List.replicate_append_replicate]; congr 1; omega
           rw [hsp, List.flatten_append, List.take_append_of_le_length (by rw [hlen]; exact Nat.le_refl _), List.take_of_length_le (by rw [hlen]; exact Nat.le_refl _)]
       obtain ⟨r1, r2⟩ := inv_put (v := .slice (some ⟨w.heap.size, 0, none⟩) z.toNat y.toNat) (g := g + 1) (y := .row el sz (g + 1) (List.replicate z.toNat (.imm (zeroI d2)))) (w' := w.alloc (.cells (madeCells z0.cells (y.toNat * sz)) el)) hI hdd (Or.inl (by omega)) ((Below.refl _ _).alloc hI.le _)
         (fun b hb _ => Below.heap_alloc _ _ _ hb) (fun b hb => by
           injection hb with hb
           subst hb
           exact ⟨Or.inl (Nat.le_refl _), by simp⟩) (fun hx => ⟨K.put_G _ _ _ _, (List.replicate z.toNat z0.cells.toList).flatten, by rw [K.put_ρ, List.length_replicate]; exact hown, RepE_mono hx _ _ (RepE_zeros p3 p4 p5 z.toNat)⟩)
       refine does_step hrun2 r1 (by unfold setB; unfold setB; exact r2) ?_
       unfold Rep
       exact ⟨rfl, (List.getElem?_eq_some_iff.1 hdd).1, Nat.le_of_eq (K.put_G _ _ _ _).symm, fun _ => by rw [K.put_ρ]⟩
     · cases h
   · cases h
 · cases h
omit hI hT hget in
theorem tup2 {Q : Nat → Prop} {kk : K} {n : Nat} (hQ : kk.Q = Q) {i : IV} {v : Value} {b : Bool} (h : RepI Q w i v) : Rep kk n w (.tup [.imm i, .imm (.bool b)]) (.tuple #[v, .bool b]) := by
 unfold Rep
 refine ⟨[v, .bool b], rfl, ?_⟩
 unfold RepT RepT RepT
 exact ⟨_, _, rfl, Rep_imm.2 (hQ ▸ h), _, _, rfl, Rep_imm.2 (by unfold RepI; rfl), rfl⟩
theorem does_lookup (hX : EqsOK P Γ.eqT) {t : TypeId} {m x : Operand} {ok : Bool} (ho : o.op = .lookup t m x ok) (h : absOp P Γ.eqT o id look get cr = some out) : Does P Γ k w a s.B o out := by
 unfold absOp at h
 simp only [ho] at h
 have fin : ∀ {kt e : TypeId} {kk : MK} {d : TD} {key : IV} {ps : List (IV × IV)} {es : Array MapEntry}, P.underlying t = some (.map kt e) → KeyOK P kt kk → tdOf P e = some d → keyB kk key = true → keysB kk ps = true → look x = .imm key → RepM k.Q w ps es.toList →
     (∀ em : Bool, (a.eval m = .map none ∧ es = #[]) ∨ ∃ b clock, a.eval m = .map (some b) ∧ w.heap[b]? = some (.map es clock)) → Does P Γ k w a s.B o ⟨lookO ok (zeroI d) (lookM ps key), [], none⟩ := by
   intro kt e kk d key ps es g1 g3 g4 g5 g6 g7 g8 g9
   have ex := hT x
   rw [g7, Rep_imm] at ex
   obtain ⟨z, hz, hzr⟩ := zero_rep (P := P) (w := w) (Q := k.Q) g4
   have hrun : ∀ r, (Instr.findKey kt (a.eval x) es.toList).run P w = .ok r w → (Instr.lookup t (a.eval m) (a.eval x) ok).run P w = .ok (match r with
       | some (_, v) => if ok then .tuple #[v, .bool true] else v
       | none => if ok then .tuple #[z, .bool false] else z) w := by
     intro r hfk
     have hck := fun em => g3.check em g5 ex
     rcases g9 true with ⟨e1, e2⟩ | ⟨b, clock, e1, e2⟩
     · subst e2
       simp only [Instr.lookup, e1, Sem.run_bind, run_underlying g1, Result.andThen]
       simp [hck, hfk]
       cases r with
       | none => simp [hz, Result.andThen]
       | some q => simp
     · simp only [Instr.lookup, e1, Sem.run_bind, run_underlying g1, Result.andThen]
       simp [MapKept.run_getObj_map e2, hck, hfk, Result.andThen]
       cases r with
       | none => simp [hz, Result.andThen]
       | some q => simp
   rcases g3.find g5 ex g8 g6 with ⟨q1, q2, _⟩ | ⟨j, e0, y, q1, _, _, q3, q4, _⟩
   · have := hrun none q1
     refine does_value hI (by simp [execOp, ho, this]; rfl) ?_
     rw [q2]
     unfold lookO
     cases ok with
     | true => exact tup2 rfl hzr
     | false => exact Rep_imm.2 hzr
   · have := hrun _ q1
     refine does_value hI (by simp [execOp, ho, this]; rfl) ?_
     rw [q3]
     unfold lookO
     cases ok with
     | true => exact tup2 rfl q4
     | false => exact Rep_imm.2 q4
 split at h
 · rename_i kt e r g key hd hm hx
   split at h
   · rename_i kk' g' ps kk d hb hk he
     split at h
     · rename_i hc
       obtain ⟨rfl, rfl, hkey⟩ := hc
       simp only [val, Option.some.injEq] at h
       subst h
       obtain ⟨_, _, u1, _, g1, _, _, g2, _⟩ := td_facts hd
       have g3 := map_of g2
       subst g3
       have g5 := key_ok hX hk
       have em := hT m
       rw [hm] at em
       obtain ⟨b, es, clock, e1, e2, e3, e4, _⟩ := ref_map hI em (hget _ _ hb) g5.it
       exact fin g1 g5 he hkey e4 hx e3 (fun _ => Or.inr ⟨b, clock, e1, e2⟩)
     · cases h
   · cases h
 · rename_i kt e key hd hm hx
   split at h
   · rename_i kk d hk he
     split at h
     · rename_i hkey
       simp only [val, Option.some.injEq] at h
       subst h
       obtain ⟨_, _, u1, _, g1, _, _, g2, _⟩ := td_facts hd
       have g3 := map_of g2
       subst g3
       have em := hT m
       rw [hm, Rep_imm] at em
       unfold RepI at em
       exact fin (ps := []) (es := #[]) g1 (key_ok hX hk) he hkey rfl hx (by unfold RepM; rfl) (fun _ => Or.inl ⟨em, rfl⟩)
     · cases h
   · cases h
 · cases h
omit hI hT hget in
theorem map_put (hI : Inv Γ k s.B w) {r g : Nat} {kk : MK} {ps ps' : List (IV × IV)} {b clock clock' : Nat} {es es' : Array MapEntry} (hit : isIter kk = false) (hbB : s.B[r]? = some (.map kk g ps)) (e2 : w.heap[b]? = some (.map es clock)) (e6 : k.ρ r = .map (some b)) (e7 : Γ.N ≤ b) (e8 : k.G r = g)
   (hM : RepM k.Q w ps' es'.toList) (hks : keysB kk ps' = true) (hst : MapKept.Stamped es' clock') {v : Value} (hrun : (execOp a.eval o).run P w = .ok (.value v) { w with heap := w.heap.setIfInBounds b (.map es' clock') }) : Does P Γ k w a s.B o ⟨.any, [(r, .map kk g ps')], none⟩ := by
 have hbl : b < w.heap.size := (Array.getElem?_eq_some_iff.1 e2).1
 obtain ⟨f1, f2⟩ := MapKept.heap_set (o' := .map es' clock') e2
 have howb : own k r (.map kk g ps) = some b := by show base (k.ρ r) = _; rw [e6]; rfl
 obtain ⟨h1, h2⟩ := inv_put (v := k.ρ r) (g := g) (y := .map kk g ps') (w' := { w with heap := w.heap.setIfInBounds b (.map es' clock') }) hI hbB (Or.inr ⟨e8, rfl⟩)
   ⟨rfl, rfl, rfl, by simp, fun i hi => f2 i (by omega)⟩
   (fun c _ hc => f2 c (fun e => hc (by rw [howb, e]))) (fun c hc => by
     have : base (k.ρ r) = some b := howb
     rw [this] at hc
     cases hc
     exact ⟨Or.inr howb, by simpa using hbl⟩) (fun hx' => by
     refine ⟨K.put_G _ _ _ _, (MapRep_map hit).2 ⟨b, es', clock', (K.put_ρ _ _ _ _).trans e6, e7, f1, ?_, hks, hst⟩⟩
     exact RepM_mono hx'.q _ _ hM)
 exact does_step hrun h1 (by unfold setB; unfold setB; exact h2) (Rep_any _ _ _ _)
theorem does_mapUpdate (hX : EqsOK P Γ.eqT) {t : TypeId} {m x y : Operand} (ho : o.op = .mapUpdate t m x y) (h : absOp P Γ.eqT o id look get cr = some out) : Does P Γ k w a s.B o out := by
 unfold absOp at h
 simp only [ho] at h
 split at h
 · rename_i kt e r g key vb hd hm hx hy
   split at h
   · rename_i kk' g' ps kk hb hk
     split at h
     · rename_i hc
       obtain ⟨rfl, rfl, hkey⟩ := hc
       simp only [Option.some.injEq] at h
       subst h
       obtain ⟨_, _, u1, _, g1, _, _, g2, _⟩ := td_facts hd
       have g3 := map_of g2
       subst g3
       have g5 := key_ok hX hk
       have em := hT m
       rw [hm] at em
       have hbB := hget _ _ hb
       obtain ⟨b, es, clock, e1, e2, e3, e4, e5, e6, e7, e8⟩ := ref_map hI em hbB g5.it
       have ex := hT x
       rw [hx, Rep_imm] at ex
       have ey := toI_rep hy (hT y)
       have hck := fun em => g5.check em hkey ex
       have main : ∀ es' clock', (Instr.mapUpdate t (a.eval m) (a.eval x) (a.eval y)).run P w = .ok () { w with heap := w.heap.setIfInBounds b (.map es' clock') } → RepM k.Q w (putM ps key vb) es'.toList → MapKept.Stamped es' clock' → Does P Γ k w a s.B o ⟨.any, [(r, .map kk g (putM ps key vb))], none⟩ := by
         intro es' clock' hrun hM hst
         obtain ⟨f1, f2⟩ := MapKept.heap_set (o' := .map es' clock') e2
         have hbl : b < w.heap.size := (Array.getElem?_eq_some_iff.1 e2).1
         have howb : own k r (.map kk g ps) = some b := by show base (k.ρ r) = _; rw [e6]; rfl
         obtain ⟨h1, h2⟩ := inv_put (v := k.ρ r) (g := g) (y := .map kk g (putM ps key vb)) (w' := { w with heap := w.heap.setIfInBounds b (.map es' clock') }) hI hbB (Or.inr ⟨e8, rfl⟩)
           ⟨rfl, rfl, rfl, by simp, fun i hi => f2 i (by omega)⟩
           (fun c _ hc => f2 c (fun e => hc (by rw [howb, e]))) (fun c hc => by
             have : base (k.ρ r) = some b := howb
             rw [this] at hc
             cases hc
             exact ⟨Or.inr howb, by simpa using hbl⟩) (fun hx' => by
             refine ⟨K.put_G _ _ _ _, (MapRep_map g5.it).2 ⟨b, es', clock', (K.put_ρ _ _ _ _).trans e6, e7, f1, ?_, keys_put hkey e4, hst⟩⟩
             exact RepM_mono hx'.q _ _ hM)
         refine does_skip ?_ h1 (by unfold setB; unfold setB; exact h2)
         simp [execOp, ho, hrun, Result.andThen]
       rcases g5.find hkey ex e3 e4 with ⟨q1, _, q2, _, q3⟩ | ⟨j, e0, y0, q1, q2, q3, _, _, _, q4⟩
       · refine main (es.push ⟨a.eval x, a.eval y, clock⟩) (clock + 1) ?_ (by simpa using q3 vb (a.eval y) clock ey) (MapKept.stamped_push e5 q2)
         simp [Instr.mapUpdate, e1, run_underlying g1, MapKept.run_getObj_map e2, hck, q1, MapKept.run_setObj_map _ e2, Result.andThen]
       · have hj : es[j]? = some e0 := by simpa using q2
         refine main (es.modify j (fun e' => { e' with key := a.eval x, val := a.eval y })) clock ?_ ?_ (MapKept.stamped_modify e5 _ _ (fun _ _ => rfl) (fun e' _ he' => by rw [hj] at he'; cases he'; exact q3.symm))
         · simp [Instr.mapUpdate, e1, run_underlying g1, MapKept.run_getObj_map e2, hck, q1, hj, q3, g5.stays hkey ex, MapKept.run_setObj_map _ e2, Result.andThen]
         · rw [Array.toList_modify, ChangeMaps.modify_eq_set _ _ _ _ q2]
           exact q4 vb (a.eval y) ey
     · cases h
   · cases h
 · cases h
theorem does_insert (hX : EqsOK P Γ.eqT) {t : TypeId} {m x y : Operand} (ho : o.op = .insert t m x y) (h : absOp P Γ.eqT o id look get cr = some out) : Does P Γ k w a s.B o out := by
 have h' : absOp P Γ.eqT { o with op := .mapUpdate t m x y } id look get cr = some out := by
   unfold absOp at h ⊢
   simp only [ho] at h ⊢
   exact h
 have hd := does_mapUpdate hI hT hget hX (o := { o with op := .mapUpdate t m x y }) rfl h'
 intro next Q hn
 have := hd next Q hn
 unfold Oper.wp at this ⊢
 simp only [execOp, ho] at this ⊢
 exact this
theorem does_delete (hX : EqsOK P Γ.eqT) {args : Array Operand} {ts : Array TypeId} (ho : o.op = .call ⟨.builtin .delete, args, ts⟩) (h : absOp P Γ.eqT o id look get cr = some out) : Does P Γ k w a s.B o out := by
 unfold absOp at h
 simp only [ho] at h
 split at h
 · rename_i kt e r g key hd hargs
   split at h
   · rename_i kk' g' ps kk hb hk
     split at h
     · rename_i hc
       obtain ⟨rfl, rfl, hkey, hts, ht1⟩ := hc
       simp only [Option.some.injEq] at h
       subst h
       obtain ⟨x1, x2, ha, hx1, hx2⟩ : ∃ x1 x2, args = #[x1, x2] ∧ look x1 = .row r g ∧ look x2 = .imm key := by
         cases hl : args.toList with
         | nil => rw [hl] at hargs; cases hargs
         | cons x1 l =>
           cases l with
           | nil => rw [hl] at hargs; simp at hargs
           | cons x2 l =>
             cases l with
             | nil =>
               rw [hl] at hargs
               simp only [List.map_cons, List.map_nil, List.cons.injEq, and_true] at hargs
               exact ⟨x1, x2, by apply Array.ext'; simpa using hl, hargs.1, hargs.2⟩
             | cons _ _ => rw [hl] at hargs; simp at hargs
       have hts' : ts = #[ts.getD 0 0, ts.getD 1 0] := by
         apply Array.ext
         · simpa using hts
         · intro j h1 h2
           have h2 : j < 2 := by simpa using h2
           match j, h2 with
           | 0, _ => simp [Array.getD_eq_getD_getElem?, h1]
           | 1, _ => simp [Array.getD_eq_getD_getElem?, h1]
       obtain ⟨t, ht⟩ : ∃ t, t = ts.getD 0 0 := ⟨_, rfl⟩
       obtain ⟨_, _, u1, _, g1, _, _, g2, _⟩ := td_facts hd
       have g3 := map_of g2
       subst g3
       rw [← ht, ht1] at hts'
       rw [← ht] at g1
       rw [hts'] at ho
       have g5 := key_ok hX hk
       have em := hT x1
       rw [hx1] at em
       have hbB := hget _ _ hb
       obtain ⟨b, es, clock, e1, e2, e3, e4, e5, e6, e7, e8⟩ := ref_map hI em hbB g5.it
       have ex := hT x2
       rw [hx2, Rep_imm] at ex
       have hck := fun em => g5.check em hkey ex
       rcases g5.find hkey ex e3 e4 with ⟨q1, _, _, q2, _⟩ | ⟨j, e0, y0, q1, q2, q3, _, _, q4, _⟩
       · refine map_put (es' := es) (clock' := clock) hI g5.it hbB e2 e6 e7 e8 (by rw [q2]; exact e3) (by rw [q2]; exact e4) e5 (v := .tuple #[]) ?_
         simp [execOp, ho, resolve, invoke, builtin, ha, e1, Builtin.delete_, run_underlying g1, MapKept.run_getObj_map e2, hck, q1, MapKept.run_setObj_map _ e2, Result.andThen]
       · have hj : j < es.size := by
           have := (List.getElem?_eq_some_iff.1 q2).1
           simpa using this
         refine map_put (es' := es.eraseIdxIfInBounds j) (clock' := clock) hI g5.it hbB e2 e6 e7 e8 ?_ (keys_del e4) (MapKept.stamped_erase e5 j) (v := .tuple #[]) ?_
         · unfold Array.eraseIdxIfInBounds
           rw [dif_pos hj, Array.toList_eraseIdx]
           exact q4
         · simp [execOp, ho, resolve, invoke, builtin, ha, e1, Builtin.delete_, run_underlying g1, MapKept.run_getObj_map e2, hck, q1, MapKept.run_setObj_map _ e2, Result.andThen]
     · cases h
   · cases h
 · cases h
omit hI hT hget in
theorem Rep_pair {kk : K} {n : Nat} {i j : IV} {u v : Value} (h : RepI kk.Q w i u) (h' : RepI kk.Q w j v) : Rep kk n w (.tup [.imm i, .imm j]) (.tuple #[u, v]) := by
 unfold Rep
 refine ⟨[u, v], rfl, ?_⟩
 unfold RepT
 refine ⟨u, [v], rfl, Rep_imm.2 h, ?_⟩
 unfold RepT
 exact ⟨v, [], rfl, Rep_imm.2 h', by unfold RepT; rfl⟩
omit hI hT hget in
theorem inv_killM (hI : Inv Γ k s.B w) {r g b clock : Nat} {kk : MK} {ps : List (IV × IV)} {es : Array MapEntry} (hb : s.B[r]? = some (.map kk g ps)) (_he : w.heap[b]? = some (.map es clock)) (e6 : k.ρ r = .map (some b)) :
   ∃ k' : K, k'.ρ = k.ρ ∧ k'.G = k.G ∧ k'.Q b ∧ Ext k s.B.length w k' s.B.length w ∧ Inv Γ k' (s.B.set r (.dead g)) w := by
 have hrl : r < s.B.length := (List.getElem?_eq_some_iff.1 hb).1
 let k' : K := ⟨k.ρ, k.G, fun b' => k.Q b' ∨ base (k.ρ r) = some b'⟩
 have hbase : ∀ b, base (k.ρ r) = some b → Γ.N ≤ b ∧ b < w.heap.size := fun b hb' => (hI.sep r _ b hb hb').2
 have he : Ext k s.B.length w k' s.B.length w := ⟨Nat.le_refl _, fun b hb => ⟨Or.inl hb, rfl⟩, fun _ _ => ⟨Nat.le_refl _, fun _ => rfl⟩⟩
 have hat : ∀ q x, (s.B.set r (.dead g))[q]? = some x → (q = r ∧ x = .dead g) ∨ (q ≠ r ∧ s.B[q]? = some x) := by
   intro q x hx
   by_cases hq : q = r
   · subst hq
     rw [List.getElem?_set_self hrl] at hx
     exact Or.inl ⟨rfl, (Option.some.inj hx).symm⟩
   · rw [List.getElem?_set_ne (Ne.symm hq)] at hx
     exact Or.inr ⟨hq, hx⟩
 have hown : ∀ q x b, (s.B.set r (.dead g))[q]? = some x → own k' q x = some b → q ≠ r ∧ s.B[q]? = some x ∧ own k q x = some b := by
   intro q x b hx hb'
   rcases hat q x hx with ⟨_, h2⟩ | ⟨h1, h2⟩
   · subst h2; cases hb'
   · exact ⟨h1, h2, by cases x <;> exact hb'⟩
 refine ⟨k', rfl, rfl, Or.inr (by rw [e6]; rfl), he, ⟨hI.below, fun b hb' => hb'.elim (hI.lt b) (fun h => (hbase b h).2), hI.le, fun b hb' => hb'.elim (hI.qs b) (fun h => Or.inr (hbase b h).1), hI.rr, fun gg cs hc => ?_, fun q x hx => ?_, fun q x b hx hb' => ?_, fun q q' x x' b hx hx' h1 h2 => ?_, ⟨fun b hb' => ?_, by rw [List.length_set]; exact hI.kp.ext.trans he⟩, fun q x b hx hb' => ?_⟩⟩
 · rw [List.length_set]; exact Rep_mono he _ _ (hI.gl gg cs hc)
 · rw [List.length_set]
   rcases hat q x hx with ⟨h1, h2⟩ | ⟨h1, h2⟩
   · subst h1; subst h2
     obtain ⟨g1, _⟩ := hI.blk q _ hb
     exact g1
   · exact blk_keep (hI.blk q x h2) he rfl rfl (fun _ _ => rfl)
 · obtain ⟨h4, h2, h3⟩ := hown q x b hx hb'
   obtain ⟨g1, g2, g3⟩ := hI.sep q x b h2 h3
   refine ⟨fun hq => hq.elim g1 (fun h => ?_), g2, g3⟩
   exact h4 (hI.inj q r x _ b h2 hb h3 h)
 · obtain ⟨_, h3, h4⟩ := hown q x b hx h1
   obtain ⟨_, h5, h6⟩ := hown q' x' b hx' h2
   exact hI.inj q q' x x' b h3 h5 h4 h6
 · obtain ⟨g1, g2, g3⟩ := hI.kp.fr b hb'
   exact ⟨g1, g2, fun hq => hq.elim g3 (fun h => hI.nf r _ b hb h hb')⟩
 · obtain ⟨_, h2, h3⟩ := hown q x b hx hb'
   exact hI.nf q x b h2 h3
theorem does_range {t : TypeId} {x : Operand} (ho : o.op = .range t x) (h : absOp P Γ.eqT o id look get cr = some out) : Does P Γ k w a s.B o out := by
 unfold absOp at h
 simp only [ho] at h
 split at h
 · rename_i kt e r g gd hd hx hg
   split at h
   · rename_i kk g' ps hb
     split at h
     · rename_i hc
       obtain ⟨rfl, hit, hne⟩ := hc
       simp only [Option.some.injEq] at h
       subst h
       obtain ⟨_, _, u1, _, g1, _, _, g2, _⟩ := td_facts hd
       have g3 := map_of g2
       subst g3
       have em := hT x
       rw [hx] at em
       have hbB := hget _ _ hb
       have hdB := hget _ _ hg
       obtain ⟨b, es, clock, e1, e2, e3, e4, e5, e6, e7, e8⟩ := ref_map hI em hbB hit
       obtain ⟨k', hρ, hG, hQ, hx1, hI1⟩ := inv_killM (s := s) hI hbB e2 e6
       have hd1 : (s.B.set r (.dead g))[id]? = some (.dead gd) := by rw [List.getElem?_set_ne hne]; exact hdB
       have hGd : k'.G id = gd := hI1.blk id _ hd1
       have hbl : b < w.heap.size := (Array.getElem?_eq_some_iff.1 e2).1
       obtain ⟨h1, h2⟩ := inv_put (v := .pointer (some ⟨w.heap.size, 0, none⟩)) (g := gd + 1) (y := .map (.iter false) (gd + 1) ps) (w' := w.alloc (.mapIter (some b) clock #[] clock)) hI1 hd1 (Or.inl (by omega)) ((Below.refl _ _).alloc hI.le _)
         (fun b hb _ => Below.heap_alloc _ _ _ hb) (fun b hb => by
           injection hb with hb
           subst hb
           exact ⟨Or.inl (Nat.le_refl _), by simp⟩) (fun hx2 => by
           refine ⟨K.put_G _ _ _ _, w.heap.size, b, es, clock, #[], K.put_ρ _ _ _ _, hI.le, heap_alloc_new w _, hQ, (Below.heap_alloc _ _ _ hbl).trans e2, e5, ?_⟩
           have : leftOf es #[] = es := by
             unfold leftOf
             exact Array.filter_eq_self.2 (fun _ _ => by simp)
           rw [this]
           exact RepM_mono (fun c hc => hx2.q c ((hx1.q c hc).1)) _ _ e3)
       rw [List.length_set] at h1
       refine does_step (v := .pointer (some ⟨w.heap.size, 0, none⟩)) (w' := w.alloc (.mapIter (some b) clock #[] clock)) ?_ (hx1.trans h1) (by unfold setB; unfold setB; unfold setB; exact h2) ?_
       · simp [execOp, ho, Instr.range, e1, run_underlying g1, MapKept.run_getObj_map e2, newObj, Result.andThen]
         rfl
       · unfold Rep
         refine ⟨rfl, (List.getElem?_eq_some_iff.1 hdB).1, Nat.le_of_eq (K.put_G _ _ _ _).symm, fun _ => ⟨w.heap.size, ?_, rfl⟩⟩
         rw [K.put_ρ]; rfl
     · cases h
   · cases h
 · cases h
omit hI hT hget in
theorem ref_iter (hI : Inv Γ k s.B w) {r g : Nat} {b : Bool} {ps : List (IV × IV)} {v : Value} (h : Rep k s.B.length w (.ptr r g 0) v) (hb : s.B[r]? = some (.map (.iter b) g ps)) :
   v = k.ρ r ∧ k.G r = g ∧ IterRep Γ.N k.Q w v b ps := by
 unfold Rep at h
 obtain ⟨_, _, _, h3⟩ := h
 obtain ⟨g1, hm⟩ := hI.blk r _ hb
 obtain ⟨c, h4, h5⟩ := h3 g1.symm
 have hm : IterRep Γ.N k.Q w (k.ρ r) b ps := hm
 have hv : v = k.ρ r := by
   obtain ⟨ib, _, _, _, _, q1, _⟩ := hm
   rw [q1] at h4 ⊢
   injection h4 with h4
   rw [h5, ← h4]
 exact ⟨hv, g1, by rw [hv]; exact hm⟩
theorem does_entry {x : Operand} (ho : o.op = .entry x) (h : absOp P Γ.eqT o id look get cr = some out) : Does P Γ k w a s.B o out := by
 unfold absOp at h
 simp only [ho] at h
 split at h
 · rename_i r g hx
   split at h
   · rename_i g' p q ps hb
     split at h
     · rename_i hc
       subst hc
       simp only [val, Option.some.injEq] at h
       subst h
       have em := hT x
       rw [hx] at em
       obtain ⟨hv, _, hm⟩ := ref_iter hI em (hget _ _ hb)
       obtain ⟨ib, m, es, clock, seen, e1, _, e3, _, e5, e6, p', l, e, hpl, _, he, ⟨seen', rfl⟩, h1, h2⟩ := hm
       injection hpl with hp hl
       subst hp
       have hr := run_entry_at (P := P) w ib m clock seen' es clock e e3 e5 he e6.2.1
       refine does_value hI (v := .tuple #[e.key, e.val]) (by simp [execOp, ho, e1, hr]) ?_
       exact Rep_pair h1 h2
     · cases h
   · cases h
 · cases h
omit hI hT hget in
theorem run_copy_any {t t' ty e : TypeId} {ie : TypeInfo} {sz : Nat} (ht : P.underlying t = some (.slice e)) (hi : P.info? e = some ie) (hs : ie.size = sz) {b dn dc : Nat} {cur : Array Value} {el : TypeId} (hh : w.heap[b]? = some (.cells cur el (0, 0)))
   {ad : Option Addr} {m c : Nat} {news : List Value} (hl : news.length = m * sz) (h1 : ∀ u ∈ news, u.oneCell' = true) (hsrc : m = 0 ∨ ∃ addr, ad = some addr ∧ ∀ j u, news[j]? = some u → w.cell? (addr.add j) = some u) (hfit : dn * sz ≤ cur.size) :
   (Builtin.copy_ #[t, t'] ty #[.slice (some ⟨b, 0, none⟩) dn dc, .slice ad m c]).run P w = .ok (goInt (Nat.min m dn)) (w.setRow b (news.take (Nat.min m dn * sz) ++ cur.toList.drop (Nat.min m dn * sz)).toArray) := by
 have hnl : (news.take (Nat.min m dn * sz)).length = Nat.min m dn * sz := by
   rw [List.length_take, hl, Nat.min_eq_left]
   exact Nat.mul_le_mul_right _ (Nat.min_le_left _ _)
 have hfit2 : Nat.min m dn * sz ≤ cur.size := Nat.le_trans (Nat.mul_le_mul_right _ (Nat.min_le_right _ _)) hfit
 have hst := run_storeCells_at P b 0 el (news.take (Nat.min m dn * sz)) 0 cur w hh (by simp only [Nat.zero_add]; rw [hnl]; exact hfit2) (fun u hu => h1 u (List.mem_of_mem_take hu))
 simp only [Nat.zero_add, List.take_zero, List.nil_append, hnl] at hst
 rcases hsrc with h0 | ⟨addr, rfl, hc⟩
 · subst h0
   have hn0 : news = [] := List.eq_nil_of_length_eq_zero (by simpa using hl)
   subst hn0
   simp only [List.take_nil, List.nil_append] at hst ⊢
   have hm0 : Nat.min 0 dn = 0 := Nat.zero_min _
   rw [hm0] at hst ⊢
   cases ad with
   | none => simp [Builtin.copy_, run_underlying ht, Builtin.lenOf, Builtin.firstCells, sizeOf, typeInfo, hi, hm0, hst]
   | some a0 =>
     have hld := run_loadCells_list (P := P) w a0 [] (by simp)
     simp only [List.length_nil] at hld
     simp [Builtin.copy_, run_underlying ht, Builtin.lenOf, Builtin.firstCells, sizeOf, typeInfo, hi, hm0, hst, hld]
 · have hld := run_loadCells_list (P := P) w addr (news.take (Nat.min m dn * sz)) (fun j u hj => hc j u (by
     rw [List.getElem?_take] at hj
     split at hj
     · exact hj
     · cases hj))
   rw [hnl] at hld
   simp [Builtin.copy_, run_underlying ht, Builtin.lenOf, Builtin.firstCells, sizeOf, typeInfo, hi, hs, hld, hst]
omit hI hT hget in
theorem take_mid {α : Type} {cur news : List α} {o N : Nat} (h : o + news.length ≤ N) (hN : N ≤ cur.length) : (cur.take o ++ news ++ cur.drop (o + news.length)).take N = (cur.take N).take o ++ news ++ (cur.take N).drop (o + news.length) := by
 have h1 : (cur.take o).length = o := by rw [List.length_take]; omega
 have h2 : (cur.take o ++ news).length = o + news.length := by rw [List.length_append, h1]
 rw [List.take_append, h2, List.take_of_length_le (by rw [h2]; exact h), List.take_take, Nat.min_eq_left (by omega), List.drop_take]
omit hI hT hget in
theorem run_copy_sub {t t' ty e : TypeId} {ie : TypeInfo} {sz : Nat} (ht : P.underlying t = some (.slice e)) (hi : P.info? e = some ie) (hs : ie.size = sz) {b o dn dc : Nat} {cur : Array Value} {el : TypeId} (hh : w.heap[b]? = some (.cells cur el (0, 0)))
   {addr : Addr} {m c : Nat} {news : List Value} (hl : news.length = m * sz) (h1 : ∀ u ∈ news, u.oneCell' = true) (hc : ∀ j u, news[j]? = some u → w.cell? (addr.add j) = some u) (hfit : o + m * sz ≤ cur.size) (hmd : m ≤ dn) :
   (Builtin.copy_ #[t, t'] ty #[.slice (some ⟨b, o, none⟩) dn dc, .slice (some addr) m c]).run P w = .ok (goInt m) (w.setRow b (cur.toList.take o ++ news ++ cur.toList.drop (o + news.length)).toArray) := by
 have hst := run_storeCells_at P b o el news 0 cur w hh (by rw [Nat.add_zero, hl]; exact hfit) h1
 rw [Nat.add_zero] at hst
 have hld := run_loadCells_list (P := P) w addr news hc
 rw [hl] at hld
 have hmin : Nat.min m dn = m := Nat.min_eq_left hmd
 simp [Builtin.copy_, run_underlying ht, Builtin.lenOf, Builtin.firstCells, sizeOf, typeInfo, hi, hs, hld, hst, hmin]
theorem does_copy {args : Array Operand} {ts : Array TypeId} (ho : o.op = .call ⟨.builtin .copy, args, ts⟩) (h : absOp P Γ.eqT o id look get cr = some out) : Does P Γ k w a s.B o out := by
 unfold absOp at h
 simp only [ho] at h
 split at h
 · rename_i ag sz0 zs el sz bytes r g px hd hargs
   split at h
   · rename_i e' sz' g' es xs hg hsrc
     split at h
     · rename_i hcc
       obtain ⟨rfl, rfl, rfl, hsz, hts, hxm, hem⟩ := hcc
       simp only [Option.some.injEq] at h
       subst h
       obtain ⟨i, z, u, g1, q2, _, _, g5, _⟩ := td_facts hd
       obtain ⟨ie, q6, q7, q8⟩ := slice_of g5
       subst q6
       obtain ⟨x1, x2, ha, hx1, hx2⟩ : ∃ x1 x2, args = #[x1, x2] ∧ look x1 = .row r g ∧ look x2 = px := by
         cases hl : args.toList with
         | nil => rw [hl] at hargs; cases hargs
         | cons x1 l =>
           cases l with
           | nil => rw [hl] at hargs; simp at hargs
           | cons x2 l =>
             cases l with
             | nil =>
               rw [hl] at hargs
               simp only [List.map_cons, List.map_nil, List.cons.injEq, and_true] at hargs
               exact ⟨x1, x2, by apply Array.ext'; simpa using hl, hargs.1, hargs.2⟩
             | cons _ _ => rw [hl] at hargs; simp at hargs
       have hts' : ts = #[ts.getD 0 0, ts.getD 1 0] := by
         apply Array.ext
         · simpa using hts
         · intro j h1 h2
           have h2 : j < 2 := by simpa using h2
           match j, h2 with
           | 0, _ => simp [Array.getD_eq_getD_getElem?, h1]
           | 1, _ => simp [Array.getD_eq_getD_getElem?, h1]
       obtain ⟨t, ht⟩ : ∃ t, t = ts.getD 0 0 := ⟨_, rfl⟩
       obtain ⟨t', ht'⟩ : ∃ t, t = ts.getD 1 0 := ⟨_, rfl⟩
       rw [← ht, ← ht'] at hts'
       rw [← ht] at q2
       have f1 := hT x1
       have f2 := hT x2
       rw [hx1] at f1
       rw [hx2] at f2
       have hb := hget _ _ hg
       obtain ⟨old, ev, hown, hE, hG⟩ := ref_row hI f1 hb
       obtain ⟨ad, m, c, news, s1, s2, s3, s4⟩ := src_rep hI hget hsrc f2
       obtain ⟨hnl, hn1⟩ := RepE_len s3
       rw [hts'] at ho
       have hval : Rep k s.B.length w (.imm (.int .i64 ((min xs.length es.length : Nat) : Int))) (goInt (Nat.min m es.length)) := by
         rw [Rep_imm]
         unfold RepI
         rw [s2]
         have hw : IntKind.i64.wrap ((min xs.length es.length : Nat) : Int) = ((min xs.length es.length : Nat) : Int) := by
           rw [IntKind.wrap_i64]
           unfold most at hxm
           omega
         first | rfl | (unfold goInt; first | rfl | (show Value.int _ _ = _; simp [hw]))
       rcases hown.2 with ⟨e1, e2⟩ | ⟨b, cap, cur, e1, e2, e3, e4, e5, e6, e7⟩
       · have hes : es = [] := List.eq_nil_of_length_eq_zero e2
         subst hes
         have hold : old = [] := by unfold RepE at hE; exact hE
         subst hold
         have hz0 : Nat.min m 0 = 0 := Nat.min_zero _
         obtain ⟨p1, p2⟩ := inv_put (v := k.ρ r) (g := g) (y := .row el sz g []) (w' := w) hI hb (Or.inr ⟨hG, rfl⟩) (Below.refl _ _)
           (fun b hb _ => rfl) (fun b hb => by rw [e1] at hb; cases hb) (fun hx => ⟨K.put_G _ _ _ _, [], by rw [K.put_ρ]; exact hown, by simp [RepE]⟩)
         refine does_step (v := goInt (Nat.min m 0)) (w' := w) ?_ p1 (by unfold setB; unfold setB; simpa using p2) (Rep_mono p1 _ _ hval)
         rw [e1] at ev
         cases ad with
         | none => simp [execOp, ho, resolve, invoke, builtin, ha, ev, s1, Builtin.copy_, run_underlying q2, Builtin.lenOf, Builtin.firstCells, sizeOf, typeInfo, q7]
         | some a0 =>
           have hld := run_loadCells_list (P := P) w a0 [] (by simp)
           simp only [List.length_nil] at hld
           simp [execOp, ho, resolve, invoke, builtin, ha, ev, s1, Builtin.copy_, run_underlying q2, Builtin.lenOf, Builtin.firstCells, sizeOf, typeInfo, q7, hld]
       · have hfit : es.length * sz ≤ cur.size := by rw [e6]; exact Nat.mul_le_mul_right _ e4
         have hrun := run_copy_any (P := P) (t' := t') (ty := o.type) q2 q7 q8 e3 (dn := es.length) (dc := cap) (c := c) (by rw [hnl, s2]) hn1 s4 hfit
         have hlt2 : b < w.heap.size := (Array.getElem?_eq_some_iff.1 e3).1
         have hol : old.length = es.length * sz := hown.1
         have hnd : Nat.min m es.length * sz ≤ es.length * sz := Nat.mul_le_mul_right _ (Nat.min_le_right _ _)
         have hnm : Nat.min m es.length * sz ≤ m * sz := Nat.mul_le_mul_right _ (Nat.min_le_left _ _)
         have hnl2 : news.length = m * sz := by rw [hnl, s2]
         have hlen : (xs.take es.length ++ es.drop xs.length).length = es.length := by
           rw [List.length_append, List.length_take, List.length_drop]; omega
         obtain ⟨t1, _⟩ := RepE_split s3 es.length
         obtain ⟨_, t2⟩ := RepE_split hE xs.length
         have u1 : news.take (es.length * sz) = news.take (Nat.min m es.length * sz) := by
           rcases Nat.le_total m es.length with hle | hle
           · have : Nat.min m es.length = m := Nat.min_eq_left hle
             rw [this, List.take_of_length_le (by rw [hnl2]; exact Nat.mul_le_mul_right _ hle), List.take_of_length_le (by rw [hnl2]; exact Nat.le_refl _)]
           · have : Nat.min m es.length = es.length := Nat.min_eq_right hle
             rw [this]
         have u2 : old.drop (xs.length * sz) = old.drop (Nat.min m es.length * sz) := by
           rw [← s2]
           rcases Nat.le_total m es.length with hle | hle
           · have : Nat.min m es.length = m := Nat.min_eq_left hle
             rw [this]
           · have : Nat.min m es.length = es.length := Nat.min_eq_right hle
             rw [this, List.drop_of_length_le (by rw [hol]; exact Nat.mul_le_mul_right _ hle), List.drop_of_length_le (by rw [hol]; exact Nat.le_refl _)]
         rw [u1] at t1
         rw [u2] at t2
         have hdr : old.drop (Nat.min m es.length * sz) = (cur.toList.drop (Nat.min m es.length * sz)).take (es.length * sz - Nat.min m es.length * sz) := by
           rw [← e7, List.drop_take]
         generalize Nat.min m es.length * sz = q at hrun hnd hnm t1 t2 hdr
         have hql : (news.take q).length = q := by rw [List.length_take, hnl2]; exact Nat.min_eq_left hnm
         obtain ⟨p1, p2⟩ := inv_put (v := k.ρ r) (g := g) (y := .row el sz g (xs.take es.length ++ es.drop xs.length)) (w' := w.setRow b (news.take q ++ cur.toList.drop q).toArray) hI hb (Or.inr ⟨hG, rfl⟩)
           ⟨rfl, rfl, rfl, by simp, fun j hj => setRow_other w b j _ (by omega)⟩ (fun j _ hne => setRow_other w b j _ (by
             intro e
             apply hne
             show some j = base (k.ρ r)
             rw [e1, e]; rfl)) (fun j hj => by
             rw [e1] at hj
             injection hj with hj
             subst hj
             exact ⟨Or.inr (by show base (k.ρ r) = _; rw [e1]; rfl), by simpa using hlt2⟩) (fun hx => by
             refine ⟨K.put_G _ _ _ _, news.take q ++ old.drop q, ?_, RepE_mono hx _ _ (RepE_app t1 t2)⟩
             rw [K.put_ρ, hlen]
             refine ⟨?_, Or.inr ⟨b, cap, _, e1, e2, setRow_heap w b cur _ el _ e3, e4, e5, ?_, ?_⟩⟩
             · rw [List.length_append, hql, List.length_drop, hol]; omega
             · rw [List.size_toArray, List.length_append, hql, List.length_drop, Array.length_toList, ← e6]; omega
             · rw [List.toList_toArray, List.take_append, hql, List.take_of_length_le (by rw [hql]; exact hnd), hdr])
         refine does_step (v := goInt (Nat.min m es.length)) ?_ p1 (by unfold setB; unfold setB; exact p2) (Rep_mono p1 _ _ hval)
         rw [e1] at ev
         simp [execOp, ho, resolve, invoke, builtin, ha, ev, s1, hrun]
     · cases h
   · cases h
 · rename_i ag sz0 zs el sz bytes r g sz2 q dm px hd hargs
   split at h
   · rename_i e' sz' g' es xs hg hsrc
     split at h
     · rename_i hcc
       obtain ⟨rfl, rfl, rfl, rfl, hsz, hts, hxm, hem⟩ := hcc
       simp only [Option.some.injEq] at h
       subst h
       obtain ⟨i, z, u, g1, q2, _, _, g5, _⟩ := td_facts hd
       obtain ⟨ie, q6, q7, q8⟩ := slice_of g5
       subst q6
       obtain ⟨x1, x2, ha, hx1, hx2⟩ : ∃ x1 x2, args = #[x1, x2] ∧ look x1 = .sub r g sz q dm ∧ look x2 = px := by
         cases hl : args.toList with
         | nil => rw [hl] at hargs; cases hargs
         | cons x1 l =>
           cases l with
           | nil => rw [hl] at hargs; simp at hargs
           | cons x2 l =>
             cases l with
             | nil =>
               rw [hl] at hargs
               simp only [List.map_cons, List.map_nil, List.cons.injEq, and_true] at hargs
               exact ⟨x1, x2, by apply Array.ext'; simpa using hl, hargs.1, hargs.2⟩
             | cons _ _ => rw [hl] at hargs; simp at hargs
       have hts' : ts = #[ts.getD 0 0, ts.getD 1 0] := by
         apply Array.ext
         · simpa using hts
         · intro j h1 h2
           have h2 : j < 2 := by simpa using h2
           match j, h2 with
           | 0, _ => simp [Array.getD_eq_getD_getElem?, h1]
           | 1, _ => simp [Array.getD_eq_getD_getElem?, h1]
       obtain ⟨t, ht⟩ : ∃ t, t = ts.getD 0 0 := ⟨_, rfl⟩
       obtain ⟨t', ht'⟩ : ∃ t, t = ts.getD 1 0 := ⟨_, rfl⟩
       rw [← ht, ← ht'] at hts'
       rw [← ht] at q2
       have f1 := hT x1
       have f2 := hT x2
       rw [hx1] at f1
       rw [hx2] at f2
       have hb := hget _ _ hg
       obtain ⟨a', dc, ad', cap', ev, k1, k2, k3, hG, k5, k4⟩ := ref_sub hI f1 hb
       obtain ⟨ad, m, c, news, s1, s2, s3, s4⟩ := src_rep hI hget hsrc f2
       obtain ⟨hnl, hn1⟩ := RepE_len s3
       obtain ⟨_, old, hown, hE⟩ := hI.blk r _ hb
       rw [hts'] at ho
       have hval : Rep k s.B.length w (.imm (.int .i64 ((xs.length : Nat) : Int))) (goInt m) := by
         rw [Rep_imm]
         unfold RepI
         rw [s2]
         have hw : IntKind.i64.wrap ((m : Nat) : Int) = ((m : Nat) : Int) := by
           rw [IntKind.wrap_i64]
           unfold most at hem
           omega
         first | rfl | (unfold goInt; first | rfl | (show Value.int _ _ = _; simp [hw]))
       by_cases hm0 : m = 0
       · subst hm0
         have hxs : xs = [] := List.eq_nil_of_length_eq_zero s2.symm
         subst hxs
         have hse : es.take q ++ [] ++ es.drop (q + ([] : List PV).length) = es := by simp
         rw [hse]
         obtain ⟨p1, p2⟩ := inv_put (v := k.ρ r) (g := g) (y := .row el sz g es) (w' := w) hI hb (Or.inr ⟨hG, rfl⟩) (Below.refl _ _)
           (fun b hb _ => rfl) (fun b hb' => ⟨Or.inr hb', (hI.sep r _ b hb hb').2.2⟩) (fun hx => ⟨K.put_G _ _ _ _, old, by rw [K.put_ρ]; exact hown, RepE_mono hx _ _ hE⟩)
         refine does_step (v := goInt 0) (w' := w) ?_ p1 (by unfold setB; unfold setB; exact p2) (Rep_mono p1 _ _ hval)
         have hz0 : Nat.min 0 dm = 0 := Nat.zero_min _
         have hnews : news = [] := List.eq_nil_of_length_eq_zero (by rw [hnl]; simp)
         cases a' with
         | none =>
           cases ad with
           | none => simp [execOp, ho, resolve, invoke, builtin, ha, ev, s1, Builtin.copy_, run_underlying q2, Builtin.lenOf, Builtin.firstCells, sizeOf, typeInfo, q7]
           | some a0 =>
             have hld := run_loadCells_list (P := P) w a0 [] (by simp)
             simp only [List.length_nil] at hld
             simp [execOp, ho, resolve, invoke, builtin, ha, ev, s1, Builtin.copy_, run_underlying q2, Builtin.lenOf, Builtin.firstCells, sizeOf, typeInfo, q7, hld]
         | some a1 =>
           cases ad with
           | none => simp [execOp, ho, resolve, invoke, builtin, ha, ev, s1, Builtin.copy_, run_underlying q2, Builtin.lenOf, Builtin.firstCells, sizeOf, typeInfo, q7, storeCells]
           | some a0 =>
             have hld := run_loadCells_list (P := P) w a0 [] (by simp)
             simp only [List.length_nil] at hld
             simp [execOp, ho, resolve, invoke, builtin, ha, ev, s1, Builtin.copy_, run_underlying q2, Builtin.lenOf, Builtin.firstCells, sizeOf, typeInfo, q7, hld, storeCells]
       · obtain ⟨addr, rfl, hcell⟩ : ∃ addr, ad = some addr ∧ ∀ j u, news[j]? = some u → w.cell? (addr.add j) = some u := s4.resolve_left hm0
         obtain ⟨b, e0, ea⟩ := k4 (by omega)
         subst ea
         have hne : 0 < es.length := by omega
         rcases hown.2 with ⟨w1, w2⟩ | ⟨b2, cap, cur, e1, e2, e3, e4, e5, e6, e7⟩
         · omega
         rw [k5, e0] at e1
         injection e1 with e1 _ ecap
         injection e1 with e1
         injection e1 with e1
         subst e1
         subst ecap
         have hnl2 : news.length = m * sz := by rw [hnl, s2]
         have hq1 : q * sz + news.length ≤ es.length * sz := by
           rw [hnl2, ← Nat.add_mul]
           exact Nat.mul_le_mul_right _ (by omega)
         have hfit : es.length * sz ≤ cur.size := by rw [e6]; exact Nat.mul_le_mul_right _ e4
         have hrun := run_copy_sub (P := P) (t' := t') (ty := o.type) q2 q7 q8 e3 (o := q * sz) (dn := dm) (dc := dc) (c := c) hnl2 hn1 hcell (by rw [← hnl2]; omega) (by omega)
         have hlt2 : b < w.heap.size := (Array.getElem?_eq_some_iff.1 e3).1
         have hol : old.length = es.length * sz := hown.1
         obtain ⟨t1, _⟩ := RepE_split hE q
         obtain ⟨_, t2⟩ := RepE_split hE (q + xs.length)
         have hlen : (es.take q ++ xs ++ es.drop (q + xs.length)).length = es.length := by
           rw [List.length_append, List.length_append, List.length_take, List.length_drop]; omega
         have hbase : base (k.ρ r) = some b := by rw [k5, e0]; rfl
         have hmid := take_mid (cur := cur.toList) (news := news) (o := q * sz) (N := es.length * sz) hq1 (by simpa using hfit)
         rw [e7] at hmid
         have hdl : (q + xs.length) * sz = q * sz + news.length := by rw [Nat.add_mul, hnl2, s2]
         rw [hdl] at t2
         obtain ⟨p1, p2⟩ := inv_put (v := k.ρ r) (g := g) (y := .row el sz g (es.take q ++ xs ++ es.drop (q + xs.length))) (w' := w.setRow b (cur.toList.take (q * sz) ++ news ++ cur.toList.drop (q * sz + news.length)).toArray) hI hb (Or.inr ⟨hG, rfl⟩)
           ⟨rfl, rfl, rfl, by simp, fun j hj => setRow_other w b j _ (by omega)⟩ (fun j _ hne => setRow_other w b j _ (by
             intro e
             apply hne
             show some j = base (k.ρ r)
             rw [hbase, e])) (fun j hj => by
             rw [hbase] at hj
             injection hj with hj
             subst hj
             exact ⟨Or.inr hbase, by simpa using hlt2⟩) (fun hx => by
             refine ⟨K.put_G _ _ _ _, old.take (q * sz) ++ news ++ old.drop (q * sz + news.length), ?_, RepE_mono hx _ _ (RepE_app (RepE_app t1 s3) t2)⟩
             rw [K.put_ρ, hlen]
             refine ⟨?_, Or.inr ⟨b, cap', _, by rw [k5, e0], e2, setRow_heap w b cur _ el _ e3, e4, e5, ?_, ?_⟩⟩
             · rw [List.length_append, List.length_append, List.length_take, List.length_drop, hol]; omega
             · rw [List.size_toArray, List.length_append, List.length_append, List.length_take, List.length_drop, Array.length_toList, ← e6]; omega
             · rw [List.toList_toArray, hmid])
         refine does_step (v := goInt m) ?_ p1 (by unfold setB; unfold setB; exact p2) (Rep_mono p1 _ _ hval)
         simp [execOp, ho, resolve, invoke, builtin, ha, ev, s1, hrun]
     · cases h
   · cases h
 · cases h
theorem does_clear {args : Array Operand} {ts : Array TypeId} (ho : o.op = .call ⟨.builtin .clear, args, ts⟩) (h : absOp P Γ.eqT o id look get cr = some out) : Does P Γ k w a s.B o out := by
 unfold absOp at h
 simp only [ho] at h
 split at h
 · rename_i ag sz0 zs el sz bytes r g sz2 q m hd hargs
   split at h
   · rename_i e' sz' g' es d hg hde
     split at h
     · rename_i hcc
       obtain ⟨rfl, rfl, rfl, rfl, hsz, hts⟩ := hcc
       simp only [Option.some.injEq] at h
       subst h
       obtain ⟨i, z, u, g1, q2, _, _, g5, _⟩ := td_facts hd
       obtain ⟨ie, q6, q7, q8⟩ := slice_of g5
       subst q6
       obtain ⟨x1, ha, hx1⟩ : ∃ x1, args = #[x1] ∧ look x1 = .sub r g sz q m := by
         cases hl : args.toList with
         | nil => rw [hl] at hargs; cases hargs
         | cons x1 l =>
           cases l with
           | nil =>
             rw [hl] at hargs
             simp only [List.map_cons, List.map_nil, List.cons.injEq, and_true] at hargs
             exact ⟨x1, by apply Array.ext'; simpa using hl, hargs⟩
           | cons _ _ => rw [hl] at hargs; simp at hargs
       have hts' : ts = #[ts.getD 0 0] := by
         apply Array.ext
         · simpa using hts
         · intro j h1 h2
           have h2 : j < 1 := by simpa using h2
           match j, h2 with
           | 0, _ => simp [Array.getD_eq_getD_getElem?, h1]
       obtain ⟨t, ht⟩ : ∃ t, t = ts.getD 0 0 := ⟨_, rfl⟩
       rw [← ht] at hts' q2
       have f1 := hT x1
       rw [hx1] at f1
       have hb := hget _ _ hg
       obtain ⟨a', dc, ad', cap', ev, k1, k2, k3, hG, k5, k4⟩ := ref_sub hI f1 hb
       obtain ⟨iz, zz, y1, y2, y3, y4, y5⟩ := zero_is (P := P) (w := w) (Q := k.Q) hde
       obtain ⟨z', hz', hzr'⟩ := zero_rep (P := P) (w := w) (Q := k.Q) hde
       have hzz : (zeroValue el).run P w = .ok zz w := run_zero y1 y2
       rw [q7] at y1
       injection y1 with y1
       subst y1
       rw [q8] at y4
       have hzl : (Builtin.zeroCells zz.cells m).toList = (List.replicate m zz.cells.toList).flatten := by
         have := made_list y4 hsz m
         rw [← this]
         unfold Builtin.zeroCells madeCells
         rw [y4]
       obtain ⟨_, old, hown, hE⟩ := hI.blk r _ hb
       rw [hts'] at ho
       have s3 : RepE k s.B.length w sz (List.replicate m (.imm (zeroI d))) (List.replicate m zz.cells.toList).flatten := RepE_zeros y3 y4 y5 m
       obtain ⟨hnl, hn1⟩ := RepE_len s3
       rw [List.length_replicate] at hnl
       by_cases hm0 : m = 0
       · subst hm0
         have hse : es.take q ++ List.replicate 0 (PV.imm (zeroI d)) ++ es.drop (q + 0) = es := by simp
         rw [hse]
         obtain ⟨p1, p2⟩ := inv_put (v := k.ρ r) (g := g) (y := .row el sz g es) (w' := w) hI hb (Or.inr ⟨hG, rfl⟩) (Below.refl _ _)
           (fun b hb _ => rfl) (fun b hb' => ⟨Or.inr hb', (hI.sep r _ b hb hb').2.2⟩) (fun hx => ⟨K.put_G _ _ _ _, old, by rw [K.put_ρ]; exact hown, RepE_mono hx _ _ hE⟩)
         refine does_step (v := .tuple #[]) (w' := w) ?_ p1 (by unfold setB; unfold setB; exact p2) (Rep_any _ _ _ _)
         cases a' with
         | none => simp [execOp, ho, resolve, invoke, builtin, ha, ev, Builtin.clear_, run_underlying q2, Result.andThen]
         | some a1 => simp [execOp, ho, resolve, invoke, builtin, ha, ev, Builtin.clear_, run_underlying q2, Result.andThen]
       · obtain ⟨b, e0, ea⟩ := k4 (by omega)
         subst ea
         rcases hown.2 with ⟨w1, w2⟩ | ⟨b2, cap, cur, e1, e2, e3, e4, e5, e6, e7⟩
         · omega
         rw [k5, e0] at e1
         injection e1 with e1 _ ecap
         injection e1 with e1
         injection e1 with e1
         subst e1
         subst ecap
         generalize hnews : (List.replicate m zz.cells.toList).flatten = news at hzl s3 hnl hn1
         have hq1 : q * sz + news.length ≤ es.length * sz := by
           rw [hnl, ← Nat.add_mul]
           exact Nat.mul_le_mul_right _ (by omega)
         have hfit : es.length * sz ≤ cur.size := by rw [e6]; exact Nat.mul_le_mul_right _ e4
         have hst := run_storeCells_at P b (q * sz) el news 0 cur w e3 (by rw [Nat.add_zero]; omega) hn1
         rw [Nat.add_zero] at hst
         have hlt2 : b < w.heap.size := (Array.getElem?_eq_some_iff.1 e3).1
         have hol : old.length = es.length * sz := hown.1
         obtain ⟨t1, _⟩ := RepE_split hE q
         obtain ⟨_, t2⟩ := RepE_split hE (q + m)
         have hlen : (es.take q ++ List.replicate m (PV.imm (zeroI d)) ++ es.drop (q + m)).length = es.length := by
           rw [List.length_append, List.length_append, List.length_take, List.length_drop, List.length_replicate]; omega
         have hbase : base (k.ρ r) = some b := by rw [k5, e0]; rfl
         have hmid := take_mid (cur := cur.toList) (news := news) (o := q * sz) (N := es.length * sz) hq1 (by simpa using hfit)
         rw [e7] at hmid
         have hdl : (q + m) * sz = q * sz + news.length := by rw [Nat.add_mul, hnl]
         rw [hdl] at t2
         obtain ⟨p1, p2⟩ := inv_put (v := k.ρ r) (g := g) (y := .row el sz g (es.take q ++ List.replicate m (PV.imm (zeroI d)) ++ es.drop (q + m))) (w' := w.setRow b (cur.toList.take (q * sz) ++ news ++ cur.toList.drop (q * sz + news.length)).toArray) hI hb (Or.inr ⟨hG, rfl⟩)
           ⟨rfl, rfl, rfl, by simp, fun j hj => setRow_other w b j _ (by omega)⟩ (fun j _ hne => setRow_other w b j _ (by
             intro e
             apply hne
             show some j = base (k.ρ r)
             rw [hbase, e])) (fun j hj => by
             rw [hbase] at hj
             injection hj with hj
             subst hj
             exact ⟨Or.inr hbase, by simpa using hlt2⟩) (fun hx => by
             refine ⟨K.put_G _ _ _ _, old.take (q * sz) ++ news ++ old.drop (q * sz + news.length), ?_, RepE_mono hx _ _ (RepE_app (RepE_app t1 s3) t2)⟩
             rw [K.put_ρ, hlen]
             refine ⟨?_, Or.inr ⟨b, cap', _, by rw [k5, e0], e2, setRow_heap w b cur _ el _ e3, e4, e5, ?_, ?_⟩⟩
             · rw [List.length_append, List.length_append, List.length_take, List.length_drop, hol]; omega
             · rw [List.size_toArray, List.length_append, List.length_append, List.length_take, List.length_drop, Array.length_toList, ← e6]; omega
             · rw [List.toList_toArray, hmid])
         refine does_step (v := .tuple #[]) ?_ p1 (by unfold setB; unfold setB; exact p2) (Rep_any _ _ _ _)
         cases m with
         | zero => exact absurd rfl hm0
         | succ m => simp [execOp, ho, resolve, invoke, builtin, ha, ev, Builtin.clear_, run_underlying q2, hzz, hzl, hst, Result.andThen]
     · cases h
   · cases h
 · cases h
omit hget in
theorem does_slice3 {t : TypeId} {x y mx : Operand} {lo : Option Operand} (ho : o.op = .slice t x lo (some y) (some mx)) (h : absOp P Γ.eqT o id look get cr = some out) : Does P Γ k w a s.B o out := by
 unfold absOp at h
 simp only [ho] at h
 have e := hT x
 split at h
 · rename_i ag sz0 zs el sz bb sz' es l k1 hh k2 m hd hx hl hy hm
   split at h
   · rename_i hc
     obtain ⟨rfl, h0, h1, rfl, h3⟩ := hc
     simp only [val, Option.some.injEq] at h
     subst h
     rw [hx] at e
     have e := Rep_imm.1 e
     unfold RepI at e
     obtain ⟨ad, c, ev, g1, g2, g3⟩ := e
     obtain ⟨i, z, u, q1, q2, _, _, q5, _⟩ := td_facts hd
     obtain ⟨ie, q6, q7, q8⟩ := slice_of q5
     subst q6
     have ey := hT y
     rw [hy] at ey
     have ey := imm_int ey
     have em := hT mx
     rw [hm] at em
     have em := imm_int em
     have hb : ∀ (kk : IntKind) (z : Int) (y : Nat) (c : BoundsCode), 0 ≤ z → z ≤ y → (Instr.sliceBound (.int kk z) y c).run P w = .ok z.toNat w := by
       intro kk z y c g1 g2
       unfold Instr.sliceBound
       simp [asIntOf, g1, g2]
     have hr : (Instr.sliceBounds true es.length c (lo.map a.eval) (some (a.eval y)) (some (a.eval mx))).run P w = .ok (l.toNat, hh.toNat, hh.toNat) w := by
       unfold Instr.sliceBounds
       rcases bound_run hT hl with ⟨rfl, rfl⟩ | ⟨y', kk', rfl, ey'⟩
       · simp [ey, em, hb k2 hh c _ (by omega) (by omega), hb k1 hh hh.toNat _ (by omega) (by omega)]
       · simp [ey, em, ey', hb k2 hh c _ (by omega) (by omega), hb k1 hh hh.toNat _ (by omega) (by omega), hb kk' l hh.toNat _ h0 (by omega)]
     have hlen : ((es.drop l.toNat).take (hh.toNat - l.toNat)).length = hh.toNat - l.toNat := by rw [List.length_take, List.length_drop]; omega
     refine does_value hI (v := .slice (if hh.toNat = l.toNat then ad else ad.map (·.add (l.toNat * sz))) (hh.toNat - l.toNat) (hh.toNat - l.toNat)) ?_ ?_
     · simp [execOp, ho, ev, Instr.sliceAt, Instr.slice, run_underlying q2, hr, sizeOf, typeInfo, q7, q8]
     · unfold Rep
       refine ⟨?_, _, by rw [hlen]⟩
       unfold RepI
       refine ⟨_, _, by rw [hlen], by rw [hlen]; omega, by omega, fun hp => ?_⟩
       rw [hlen] at hp
       obtain ⟨b, off, ea, hq, hR⟩ := g3 (by omega)
       subst ea
       refine ⟨b, off + l.toNat * sz, ?_, hq, row_take _ (row_drop _ hR)⟩
       rw [if_neg (by omega)]
       simp only [Option.map_some, Option.some.injEq]
       unfold Addr.add
       split <;> simp_all
   · cases h
 · cases h
end
end Go.Pv
