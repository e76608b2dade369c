/-
  Plain values: a block made by a call at a place that was laid ready; boxes told otherwise. Plain values: arguments that came in, of any types that are made of numbers, strings, truth values, structs and slices.
-/
import Derived.Test.YtbkbmeciaippmaaDoorP5
import Derived.Deep.Slices
import Derived.ChangeArms
import Derived.ChangeOld
namespace Go.Pv
open Go.RowKit (Below)
set_option linter.unusedSimpArgs false
set_option linter.unusedSectionVars false

mutual
/-- The names of a block under another number; what spoke of the place itself is let go. -/
def mv (i j h g' : Nat) : PV → PV
  | .any => .any
  | .imm a => .imm a
  | .agg cs => .agg (mvL i j h g' cs)
  | .tup cs => .tup (mvL i j h g' cs)
  | .ptr q n o => if q = j then (if n = h then .ptr i g' o else .any) else if q = i then .any else .ptr q n o
  | .row q n => if q = j then (if n = h then .row i g' else .any) else if q = i then .any else .row q n
  | .eptr q n a b c => if q = j then (if n = h then .eptr i g' a b c else .any) else if q = i then .any else .eptr q n a b c
  | .iptr cs => .iptr cs
  | .clo f cs => .clo f (mvL i j h g' cs)
def mvL (i j h g' : Nat) : List PV → List PV
  | [] => []
  | c :: cs => mv i j h g' c :: mvL i j h g' cs
end
def mvB (i j h g' : Nat) : Blk → Blk
  | .dead q => .dead q
  | .box q cs => .box q (mvL i j h g' cs)
  | .row e sz q es => .row e sz q es
theorem mvL_imms (i j h g' : Nat) : ∀ is : List IV, mvL i j h g' (is.map .imm) = is.map .imm
  | [] => by simp [mvL]
  | a :: l => by simp only [List.map_cons]; unfold mvL; rw [mvL_imms i j h g' l]; unfold mv; rfl
section
variable {k : K} {n : Nat} {w : World} {i j h g' : Nat} (hi : i < n) (hg : k.G j = h) (hij : i ≠ j)
def mvK (k : K) (i j h g' : Nat) : K := ⟨fun r => if r = i then k.ρ j else k.ρ r, fun r => if r = i then g' else if r = j then h + 1 else k.G r, k.Q⟩
include hi hg hij
theorem ref_mv {q m : Nat} {p : Value → Prop} (hr : Ref k n q m p) : (q = j → m = h → Ref (mvK k i j h g') n i g' p) ∧ (q ≠ j → q ≠ i → Ref (mvK k i j h g') n q m p) := by
  obtain ⟨h1, h2, h3⟩ := hr
  refine ⟨fun e1 e2 => ⟨hi, by simp [mvK], fun _ => ?_⟩, fun e1 e2 => ⟨h1, by simp [mvK, e1, e2]; exact h2, fun he => ?_⟩⟩
  · subst e1
    have := h3 (by rw [e2, hg])
    simpa [mvK] using this
  · have := h3 (by simpa [mvK, e1, e2] using he)
    simpa [mvK, e2] using this
mutual
theorem mv_rep : ∀ (p : PV) (v : Value), Rep k n w p v → Rep (mvK k i j h g') n w (mv i j h g' p) v
  | .any, v, _ => by unfold mv; exact Rep_any _ _ _ _
  | .imm a, v, hp => by unfold mv; rw [Rep_imm] at hp ⊢; exact hp
  | .agg cs, v, hp => by
    unfold mv
    obtain ⟨vs, e, hl⟩ := Rep_agg.1 hp
    exact Rep_agg.2 ⟨vs, e, mvL_rep cs vs hl⟩
  | .tup cs, v, hp => by
    unfold mv
    unfold Rep at hp ⊢
    obtain ⟨vs, e, hl⟩ := hp
    exact ⟨vs, e, mvT_rep cs vs hl⟩
  | .ptr q m o, v, hp => by
    unfold mv
    have hr := fun p => ref_mv (g' := g') hi hg hij (q := q) (m := m) (p := p)
    unfold Rep at hp
    by_cases e : q = j
    · rw [if_pos e]
      by_cases e2 : m = h
      · rw [if_pos e2]; unfold Rep; exact ⟨hp.1, (hr _ hp.2).1 e e2⟩
      · rw [if_neg e2]; exact Rep_any _ _ _ _
    · rw [if_neg e]
      by_cases e2 : q = i
      · rw [if_pos e2]; exact Rep_any _ _ _ _
      · rw [if_neg e2]; unfold Rep; exact ⟨hp.1, (hr _ hp.2).2 e e2⟩
  | .row q m, v, hp => by
    unfold mv
    have hr := fun p => ref_mv (g' := g') hi hg hij (q := q) (m := m) (p := p)
    unfold Rep at hp
    by_cases e : q = j
    · rw [if_pos e]
      by_cases e2 : m = h
      · rw [if_pos e2]; unfold Rep; exact ⟨hp.1, (hr _ hp.2).1 e e2⟩
      · rw [if_neg e2]; exact Rep_any _ _ _ _
    · rw [if_neg e]
      by_cases e2 : q = i
      · rw [if_pos e2]; exact Rep_any _ _ _ _
      · rw [if_neg e2]; unfold Rep; exact ⟨hp.1, (hr _ hp.2).2 e e2⟩
  | .eptr q m a b c, v, hp => by
    unfold mv
    have hr := fun p => ref_mv (g' := g') hi hg hij (q := q) (m := m) (p := p)
    unfold Rep at hp
    by_cases e : q = j
    · rw [if_pos e]
      by_cases e2 : m = h
      · rw [if_pos e2]; unfold Rep; exact ⟨hp.1, (hr _ hp.2).1 e e2⟩
      · rw [if_neg e2]; exact Rep_any _ _ _ _
    · rw [if_neg e]
      by_cases e2 : q = i
      · rw [if_pos e2]; exact Rep_any _ _ _ _
      · rw [if_neg e2]; unfold Rep; exact ⟨hp.1, (hr _ hp.2).2 e e2⟩
  | .iptr cs, v, hp => by unfold mv; exact iptr_any (k := k) (n := n) (k' := mvK k i j h g') rfl hp
  | .clo f cs, v, hp => by
    unfold mv
    unfold Rep at hp ⊢
    obtain ⟨vs, e, hl⟩ := hp
    exact ⟨vs, e, mvT_rep cs vs hl⟩
theorem mvL_rep : ∀ (cs : List PV) (vs : List Value), RepL k n w cs vs → RepL (mvK k i j h g') n w (mvL i j h g' cs) vs
  | [], vs, hp => by unfold mvL; unfold RepL at hp ⊢; exact hp
  | c :: cs, vs, hp => by
    unfold mvL
    unfold RepL at hp ⊢
    obtain ⟨v, q, e, h0, h1, h2⟩ := hp
    exact ⟨v, q, e, h0, mv_rep c v h1, mvL_rep cs q h2⟩
theorem mvT_rep : ∀ (cs : List PV) (vs : List Value), RepT k n w cs vs → RepT (mvK k i j h g') n w (mvL i j h g' cs) vs
  | [], vs, hp => by unfold mvL; unfold RepT at hp ⊢; exact hp
  | c :: cs, vs, hp => by
    unfold mvL
    unfold RepT at hp ⊢
    obtain ⟨v, q, e, h1, h2⟩ := hp
    exact ⟨v, q, e, mv_rep c v h1, mvT_rep cs q h2⟩
end
theorem mvE_rep {sz : Nat} : ∀ (cs : List PV) (xs : List Value), RepE k n w sz cs xs → RepE (mvK k i j h g') n w sz (mvL i j h g' cs) xs
  | [], xs, hp => by unfold mvL; unfold RepE at hp ⊢; exact hp
  | c :: cs, xs, hp => by
    unfold mvL
    unfold RepE at hp ⊢
    obtain ⟨v, q, e, h0, h1, h2, h3⟩ := hp
    exact ⟨v, q, e, h0, h1, mv_rep hi hg hij c v h2, mvE_rep cs q h3⟩
end
/-- A block of the call's own takes the place that was laid ready. -/
theorem Weak.adopt {Γ : Ctx} {E : List PV} {B : List Blk} (i j g' : Nat) {gi : Nat} {x : Blk} (hij : i ≠ j) (hbi : B[i]? = some (.dead gi)) (hbj : B[j]? = some x) (hn : Γ.n0 ≤ j) (h0 : i < Γ.n0 → Γ.k0.G i < g') (hr : RowsAre (mvL i j (gen x) g') B) :
    Weak Γ ⟨E, B⟩ ⟨mvL i j (gen x) g' E, ((B.map (mvB i j (gen x) g')).set i (Pv.regen g' (mvB i j (gen x) g' x))).set j (.dead (gen x + 1))⟩ := by
  rintro a w ⟨hd, k, hI, hT⟩
  have hg : k.G j = gen x := own_gen (hI.blk j x hbj)
  have hil : i < B.length := (List.getElem?_eq_some_iff.1 hbi).1
  have hjl : j < B.length := (List.getElem?_eq_some_iff.1 hbj).1
  generalize hB' : ((B.map (mvB i j (gen x) g')).set i (Pv.regen g' (mvB i j (gen x) g' x))).set j (.dead (gen x + 1)) = B'
  have hlen : B'.length = B.length := by rw [← hB']; simp
  have hat : ∀ q y, B'[q]? = some y → (q = j ∧ y = .dead (gen x + 1)) ∨ (q = i ∧ y = Pv.regen g' (mvB i j (gen x) g' x)) ∨ (q ≠ i ∧ q ≠ j ∧ ∃ z, B[q]? = some z ∧ y = mvB i j (gen x) g' z) := by
    intro q y hy
    rw [← hB'] at hy
    by_cases e : q = j
    · subst e
      rw [List.getElem?_set_self (by simpa using hjl)] at hy
      exact Or.inl ⟨rfl, (Option.some.inj hy).symm⟩
    · rw [List.getElem?_set_ne (Ne.symm e)] at hy
      by_cases e2 : q = i
      · subst e2
        rw [List.getElem?_set_self (by simpa using hil)] at hy
        exact Or.inr (Or.inl ⟨rfl, (Option.some.inj hy).symm⟩)
      · rw [List.getElem?_set_ne (Ne.symm e2), List.getElem?_map] at hy
        cases hz : B[q]? with
        | none => rw [hz] at hy; cases hy
        | some z => rw [hz] at hy; exact Or.inr (Or.inr ⟨e2, e, z, rfl, (Option.some.inj hy).symm⟩)
  let k' := mvK k i j (gen x) g'
  have hρi : k'.ρ i = k.ρ j := by show (if i = i then _ else _) = _; simp
  have hρ : ∀ q, q ≠ i → k'.ρ q = k.ρ q := fun q e => by show (if q = i then _ else _) = _; rw [if_neg e]
  have hGi : k'.G i = g' := by show (if i = i then _ else _) = _; simp
  have hG : ∀ q, q ≠ i → q ≠ j → k'.G q = k.G q := fun q e e2 => by show (if q = i then _ else if q = j then _ else _) = _; rw [if_neg e, if_neg e2]
  have hGj : k'.G j = gen x + 1 := by show (if j = i then _ else if j = j then _ else _) = _; rw [if_neg (Ne.symm hij)]; simp
  have hown : ∀ q y b, B'[q]? = some y → own k' q y = some b → ∃ q0 z, B[q0]? = some z ∧ own k q0 z = some b ∧ (q0 = if q = i then j else q) := by
    intro q y b hy ho
    rcases hat q y hy with ⟨_, h⟩ | ⟨e, h⟩ | ⟨e, e2, z, hz, h⟩
    · subst h; cases ho
    · subst h; subst e
      refine ⟨j, x, hbj, ?_, by simp⟩
      cases x with
      | dead _ => cases ho
      | box _ _ => show base (k.ρ j) = _; rw [← hρi]; exact ho
      | row _ _ _ _ => show base (k.ρ j) = _; rw [← hρi]; exact ho
    · subst h
      refine ⟨q, z, hz, ?_, by rw [if_neg e]⟩
      cases z with
      | dead _ => cases ho
      | box _ _ => show base (k.ρ q) = _; rw [← hρ q e]; exact ho
      | row _ _ _ _ => show base (k.ρ q) = _; rw [← hρ q e]; exact ho
  have hnij : ∀ q y b, B'[q]? = some y → own k' q y = some b → q ≠ j := by
    intro q y b hy ho e
    rcases hat q y hy with ⟨_, h⟩ | ⟨e2, h⟩ | ⟨_, e2, _⟩
    · subst h; cases ho
    · exact hij (e2.symm.trans e)
    · exact e2 e
  have hrow : ∀ (y : Blk) (q : Nat), B[q]? = some y → ∀ (e : TypeId) (sz m : Nat) (es : List PV), y = .row e sz m es → mvL i j (gen x) g' es = es := by
    intro y q hy e sz m es he
    subst he
    exact hr.at hy
  refine ⟨hd, k', ⟨hI.below, hI.lt, hI.le, hI.qs, hI.rr, fun gg cs hc => iptr_any (k := k) (n := B.length) rfl (hI.gl gg cs hc), fun q y hy => ?_, fun q y b hy ho => ?_, fun q q' y y' b hy hy' ho ho' => ?_, ⟨hI.kp.fr, by rw [hlen]; exact hI.kp.ext.le, hI.kp.ext.q, fun q hq => ?_⟩, fun q y b hy ho => ?_⟩, ?_⟩
  · rw [hlen]
    rcases hat q y hy with ⟨e, h⟩ | ⟨e, h⟩ | ⟨e, e2, z, hz, h⟩
    · subst e; subst h; exact hGj
    · subst e; subst h
      have hbk := hI.blk j x hbj
      cases x with
      | dead m => exact hGi
      | box m cs =>
        obtain ⟨_, b, c, ty, h3, h4, h5, h6⟩ := hbk
        exact ⟨hGi, b, c, ty, hρi.trans h3, h4, h5, mvL_rep hil hg hij cs _ h6⟩
      | row e' sz m es =>
        obtain ⟨_, xs, h3, h4⟩ := hbk
        refine ⟨hGi, xs, by rw [hρi]; exact h3, ?_⟩
        have := mvE_rep (g' := g') hil hg hij es _ h4
        rw [hrow _ _ hbj _ _ _ _ rfl] at this
        exact this
    · subst h
      have hbk := hI.blk q z hz
      cases z with
      | dead m => exact (hG q e e2).trans hbk
      | box m cs =>
        obtain ⟨h2, b, c, ty, h3, h4, h5, h6⟩ := hbk
        exact ⟨(hG q e e2).trans h2, b, c, ty, (hρ q e).trans h3, h4, h5, mvL_rep hil hg hij cs _ h6⟩
      | row e' sz m es =>
        obtain ⟨h2, xs, h3, h4⟩ := hbk
        refine ⟨(hG q e e2).trans h2, xs, by rw [hρ q e]; exact h3, ?_⟩
        have := mvE_rep (g' := g') hil hg hij es _ h4
        rw [hrow _ _ hz _ _ _ _ rfl] at this
        exact this
  · obtain ⟨q0, z, hz, h, _⟩ := hown q y b hy ho
    exact hI.sep q0 z b hz h
  · have n1 := hnij q y b hy ho
    have n2 := hnij q' y' b hy' ho'
    obtain ⟨q0, z, hz, h, e1⟩ := hown q y b hy ho
    obtain ⟨q1, z', hz', h', e2⟩ := hown q' y' b hy' ho'
    have := hI.inj q0 q1 z z' b hz hz' h h'
    rw [e1, e2] at this
    split at this <;> split at this <;> omega
  · obtain ⟨h1, h2⟩ := hI.kp.ext.r q hq
    have hqj : q ≠ j := by omega
    by_cases e : q = i
    · subst e
      have := h0 hq
      rw [hGi]
      exact ⟨by omega, fun e => by omega⟩
    · rw [hG q e hqj, hρ q e]
      exact ⟨h1, h2⟩
  · obtain ⟨q0, z, hz, h, _⟩ := hown q y b hy ho
    exact hI.nf q0 z b hz h
  · show RepT k' B'.length w _ _
    rw [hlen]
    exact mvT_rep hil hg hij E _ hT
theorem Wk.repL {k : K} {n m : Nat} {w : World} {E E' : List PV} (h : Wk m E E') : ∀ {vs : List Value}, RepL k n w E vs → RepL k n w E' vs := by
  induction h with
  | nil => intro vs h; exact h
  | keep hb _ ih =>
    intro vs h
    unfold RepL at h ⊢
    obtain ⟨v, r, e, h0, h1, h2⟩ := h
    exact ⟨v, r, e, h0, h1, ih h2⟩
  | drop _ ih =>
    intro vs h
    unfold RepL at h ⊢
    obtain ⟨v, r, e, h0, h1, h2⟩ := h
    exact ⟨v, r, e, h0, Rep_any _ _ _ _, ih h2⟩
  | le hl _ ih =>
    intro vs h
    unfold RepL at h ⊢
    obtain ⟨v, r, e, h0, h1, h2⟩ := h
    exact ⟨v, r, e, h0, Rep_imm.2 (hl _ _ _ (Rep_imm.1 h1)), ih h2⟩
/-- A box whose cells are told otherwise. -/
theorem Weak.cells {Γ : Ctx} {E : List PV} {B : List Blk} (b : Nat) {g : Nat} {cs cs' : List PV} (hb : B[b]? = some (.box g cs)) (h : Wk B.length cs cs') : Weak Γ ⟨E, B⟩ ⟨E, B.set b (.box g cs')⟩ := by
  rintro a w ⟨hd, k, hI, hT⟩
  refine ⟨hd, k, inv_cell hI hb (fun vs hv => h.repL hv), ?_⟩
  show RepT k (B.set b _).length w _ _
  rw [List.length_set]
  exact hT
/-- A place laid ready. -/
theorem Weak.spare {Γ : Ctx} {E : List PV} {B : List Blk} : Weak Γ ⟨E, B⟩ ⟨E, B ++ [.dead 77]⟩ := by
  rintro a w ⟨hd, k, hI, hT⟩
  let k' : K := ⟨k.ρ, fun r => if r = B.length then 77 else k.G r, k.Q⟩
  have hG : ∀ r, r < B.length → k'.G r = k.G r := fun r h => by show (if r = B.length then 77 else _) = _; rw [if_neg (by omega)]
  have hlen : (B ++ [Blk.dead 77]).length = B.length + 1 := by simp
  have he : Ext k B.length w k' (B.length + 1) w := ⟨by omega, fun b hb => ⟨hb, rfl⟩, fun r hr => by rw [hG r hr]; exact ⟨Nat.le_refl _, fun _ => rfl⟩⟩
  have hat : ∀ r x, (B ++ [Blk.dead 77])[r]? = some x → (r < B.length ∧ B[r]? = some x) ∨ (r = B.length ∧ x = .dead 77) := fun r x hx => by
    by_cases h : r < B.length
    · rw [List.getElem?_append_left h] at hx
      exact Or.inl ⟨h, hx⟩
    · have hr : r < (B ++ [Blk.dead 77]).length := (List.getElem?_eq_some_iff.1 hx).1
      rw [hlen] at hr
      have : r = B.length := by omega
      subst this
      simp at hx
      exact Or.inr ⟨rfl, hx.symm⟩
  have hown : ∀ r x b, (B ++ [Blk.dead 77])[r]? = some x → own k' r x = some b → B[r]? = some x ∧ own k r x = some b := fun r x b hx hb => by
    rcases hat r x hx with ⟨_, h2⟩ | ⟨_, h2⟩
    · exact ⟨h2, by cases x <;> exact hb⟩
    · subst h2; cases hb
  refine ⟨hd, k', ⟨hI.below, hI.lt, hI.le, hI.qs, hI.rr, fun gg cs hc => iptr_any (k := k) (n := B.length) rfl (hI.gl gg cs hc), fun r x hx => ?_, fun r x b hx hb => ?_, fun r r' x x' b hx hx' hb hb' => ?_, ⟨hI.kp.fr, by rw [hlen]; exact hI.kp.ext.trans he⟩, fun r x b hx hb => ?_⟩, ?_⟩
  · rw [hlen]
    rcases hat r x hx with ⟨h1, h2⟩ | ⟨h1, h2⟩
    · have hbk := hI.blk r x h2
      cases x with
      | dead m => exact (hG r h1).trans hbk
      | box m cs =>
        obtain ⟨h2, b, c, ty, h3, h4, h5, h6⟩ := hbk
        exact ⟨(hG r h1).trans h2, b, c, ty, h3, h4, h5, RepL_mono he _ _ h6⟩
      | row e' sz m es =>
        obtain ⟨h2, xs, h3, h4⟩ := hbk
        exact ⟨(hG r h1).trans h2, xs, h3, RepE_mono he _ _ h4⟩
    · subst h1; subst h2
      show (if B.length = B.length then 77 else _) = 77
      simp
  · obtain ⟨h1, h2⟩ := hown r x b hx hb
    exact hI.sep r x b h1 h2
  · obtain ⟨h1, h2⟩ := hown r x b hx hb
    obtain ⟨h3, h4⟩ := hown r' x' b hx' hb'
    exact hI.inj r r' x x' b h1 h3 h2 h4
  · obtain ⟨h1, h2⟩ := hown r x b hx hb
    exact hI.nf r x b h1 h2
  · show RepT k' (B ++ [Blk.dead 77]).length w _ _
    rw [hlen]
    exact RepT_mono he _ _ hT
end Go.Pv

namespace Go.Pv
open Go.RowKit (Below)
open Go.ChangeShapes Go.WideShapes
set_option linter.unusedSimpArgs false
set_option linter.unusedSectionVars false

theorem Wk.drop4 {m : Nat} {a b c d : PV} {E E' : List PV} (h : Wk m E E') : Wk m (a :: b :: c :: d :: E) (.any :: .any :: .any :: .any :: E') := .drop (.drop (.drop (.drop h)))
theorem Wk.drop16 {m : Nat} {a b c d e f g h i j k l n o p q : PV} {E E' : List PV} (h' : Wk m E E') : Wk m (a :: b :: c :: d :: e :: f :: g :: h :: i :: j :: k :: l :: n :: o :: p :: q :: E) (.any :: .any :: .any :: .any :: .any :: .any :: .any :: .any :: .any :: .any :: .any :: .any :: .any :: .any :: .any :: .any :: E') := .drop4 (.drop4 (.drop4 (.drop4 h')))
def aggT (P : Program) (t : TypeId) : Bool := match P.underlying t with
  | some (.struct _) => true
  | _ => false
/-- A value of its cells. -/
def elemI (agg : Bool) (cs : List IV) : IV := if agg then .agg cs else cs.headD .nil
/-- What is known of the cells of a value that came in. -/
inductive OkC (P : Program) : TypeId → List IV → Prop
  | int {t : TypeId} {k : IntKind} {z : Int} : P.underlying t = some (.int k) → (Lit.int k z).wf = true → OkC P t [.int k z]
  | str {t : TypeId} {s : ByteArray} : P.underlying t = some .string → s.size ≤ maxLen → OkC P t [.str s]
  | bool {t : TypeId} {b : Bool} : P.underlying t = some .bool → OkC P t [.bool b]
  | strct {t : TypeId} {fs : Array Field} (parts : List (List IV)) : P.underlying t = some (.struct fs) → parts.length = fs.size → (∀ (i : Nat) (f : Field) (q : List IV), fs[i]? = some f → parts[i]? = some q → OkC P f.type q) → OkC P t parts.flatten
  | slice {t e : TypeId} (css : List (List IV)) : P.underlying t = some (.slice e) → css.length ≤ maxLen → (∀ cs ∈ css, OkC P e cs) → OkC P t [.sl (P.cellsOf e) (css.map (elemI (aggT P e)))]
/-- Fields that lie one behind the other. -/
def contig (P : Program) : Nat → List Field → Option Nat
  | off, [] => some off
  | off, f :: r => if f.offset = off then contig P (off + P.cellsOf f.type) r else none
def closedT (P : Program) (S : List TypeId) (t : TypeId) : Bool := match P.underlying t with
  | some (.int _) | some .string | some .bool => true
  | some (.struct fs) => decide (contig P 0 fs.toList = some (P.cellsOf t)) && fs.toList.all fun f => S.contains f.type
  | some (.slice e) => S.contains e && decide (0 < P.cellsOf e)
  | _ => false
def closed (P : Program) (S : List TypeId) : Bool := S.all (closedT P S)
theorem RepC_app {Q : Nat → Prop} {w : World} : ∀ {E E' : List IV} {vs vs' : List Value}, RepC Q w E vs → RepC Q w E' vs' → RepC Q w (E ++ E') (vs ++ vs')
  | [], _, vs, _, h, h' => by unfold RepC at h; subst h; simpa using h'
  | c :: cs, _, vs, _, h, h' => by
    unfold RepC at h
    obtain ⟨v, r, ee, h0, h1, h2⟩ := h
    subst ee
    simp only [List.cons_append]
    unfold RepC
    exact ⟨v, _, rfl, h0, h1, RepC_app h2 h'⟩
theorem RepC_one' {Q : Nat → Prop} {w : World} {i : IV} {v : Value} (h1 : one v) (h2 : RepI Q w i v) : RepC Q w [i] [v] := by
  unfold RepC
  exact ⟨v, [], rfl, h1, h2, by unfold RepC; rfl⟩
theorem parts_rep {P : Program} {Q : Nat → Prop} {w : World} {cs : List Value} : ∀ (fs : List Field) (parts : List (List IV)) (off n : Nat), contig P off fs = some n → parts.length = fs.length → n = cs.length → (∀ (i : Nat) (f : Field) (q : List IV), fs[i]? = some f → parts[i]? = some q → RepC Q w q ((cs.drop f.offset).take (P.cellsOf f.type))) → off ≤ n → RepC Q w parts.flatten (cs.drop off)
  | [], [], off, n, hc, _, hn, _, _ => by
    simp only [contig, Option.some.injEq] at hc
    rw [List.drop_of_length_le (by omega)]
    simp [RepC]
  | [], _ :: _, _, _, _, hl, _, _, _ => by simp at hl
  | _ :: _, [], _, _, _, hl, _, _, _ => by simp at hl
  | f :: fs, q :: parts, off, n, hc, hl, hn, h, hle => by
    unfold contig at hc
    split at hc
    · rename_i ho
      have hmono : ∀ (fs : List Field) (off n : Nat), contig P off fs = some n → off ≤ n := by
        intro fs
        induction fs with
        | nil => intro off n h; simp only [contig, Option.some.injEq] at h; omega
        | cons f fs ih =>
          intro off n h
          unfold contig at h
          split at h
          · have := ih _ _ h; omega
          · cases h
      have hle2 := hmono _ _ _ hc
      have h0 := h 0 f q rfl rfl
      have ih := parts_rep fs parts (off + P.cellsOf f.type) n hc (by simpa using hl) hn (fun i f' q' hf hq => h (i + 1) f' q' (by simpa using hf) (by simpa using hq)) hle2
      rw [ho] at h0
      have e : cs.drop off = (cs.drop off).take (P.cellsOf f.type) ++ cs.drop (off + P.cellsOf f.type) := by
        rw [← List.drop_drop, List.take_append_drop]
      rw [e, List.flatten_cons]
      exact RepC_app h0 ih
    · cases hc
theorem RepR_of {Q : Nat → Prop} {w : World} {sz b : Nat} : ∀ (es : List IV) (off : Nat), (∀ (i : Nat) (e : IV), es[i]? = some e → ∃ v, RepI Q w e v ∧ v.cells.size = sz ∧ ∀ j u, v.cells[j]? = some u → w.cell? ⟨b, off + i * sz + j, none⟩ = some u) → RepR Q w sz b off es
  | [], _, _ => by unfold RepR; trivial
  | e :: es, off, h => by
    unfold RepR
    refine ⟨?_, RepR_of es (off + sz) fun i e' he => ?_⟩
    · obtain ⟨v, h1, h2, h3⟩ := h 0 e rfl
      exact ⟨v, h1, h2, fun j u hj => by have := h3 j u hj; rwa [Nat.zero_mul, Nat.add_zero] at this⟩
    · obtain ⟨v, h1, h2, h3⟩ := h (i + 1) e' (by simpa using he)
      exact ⟨v, h1, h2, fun j u hj => by have := h3 j u hj; rwa [show off + (i + 1) * sz + j = off + sz + i * sz + j by rw [Nat.succ_mul]; omega] at this⟩
theorem OkC.len1 {P : Program} {t : TypeId} {is : List IV} (h : OkC P t is) (ha : aggT P t = false) : ∃ i, is = [i] := by
  cases h with
  | int h1 _ => exact ⟨_, rfl⟩
  | str h1 _ => exact ⟨_, rfl⟩
  | bool h1 => exact ⟨_, rfl⟩
  | strct parts h1 _ _ => simp [aggT, h1] at ha
  | slice css h1 _ _ => exact ⟨_, rfl⟩
section
variable {P : Program} {t : TypeId} {is : List IV}
theorem OkC.int_inv {k : IntKind} (hu : P.underlying t = some (.int k)) (h : OkC P t is) : ∃ z, is = [.int k z] ∧ (Lit.int k z).wf = true := by
  cases h with
  | int h1 h2 => rw [hu] at h1; injection h1 with h1; injection h1 with h1; subst h1; exact ⟨_, rfl, h2⟩
  | str h1 _ => rw [hu] at h1; cases h1
  | bool h1 => rw [hu] at h1; cases h1
  | strct _ h1 _ _ => rw [hu] at h1; cases h1
  | slice _ h1 _ _ => rw [hu] at h1; cases h1
theorem OkC.str_inv (hu : P.underlying t = some .string) (h : OkC P t is) : ∃ s : ByteArray, is = [.str s] ∧ s.size ≤ maxLen := by
  cases h with
  | int h1 h2 => rw [hu] at h1; cases h1
  | str h1 h2 => exact ⟨_, rfl, h2⟩
  | bool h1 => rw [hu] at h1; cases h1
  | strct _ h1 _ _ => rw [hu] at h1; cases h1
  | slice _ h1 _ _ => rw [hu] at h1; cases h1
theorem OkC.bool_inv (hu : P.underlying t = some .bool) (h : OkC P t is) : ∃ b, is = [.bool b] := by
  cases h with
  | int h1 h2 => rw [hu] at h1; cases h1
  | str h1 h2 => rw [hu] at h1; cases h1
  | bool h1 => exact ⟨_, rfl⟩
  | strct _ h1 _ _ => rw [hu] at h1; cases h1
  | slice _ h1 _ _ => rw [hu] at h1; cases h1
theorem OkC.strct_inv {fs : Array Field} (hu : P.underlying t = some (.struct fs)) (h : OkC P t is) : ∃ parts : List (List IV), is = parts.flatten ∧ parts.length = fs.size ∧ ∀ (i : Nat) (f : Field) (q : List IV), fs[i]? = some f → parts[i]? = some q → OkC P f.type q := by
  cases h with
  | int h1 h2 => rw [hu] at h1; cases h1
  | str h1 h2 => rw [hu] at h1; cases h1
  | bool h1 => rw [hu] at h1; cases h1
  | strct parts h1 h2 h3 => rw [hu] at h1; injection h1 with h1; injection h1 with h1; subst h1; exact ⟨parts, rfl, h2, h3⟩
  | slice _ h1 _ _ => rw [hu] at h1; cases h1
theorem OkC.slice_inv {e : TypeId} (hu : P.underlying t = some (.slice e)) (h : OkC P t is) : ∃ css : List (List IV), is = [.sl (P.cellsOf e) (css.map (elemI (aggT P e)))] ∧ css.length ≤ maxLen ∧ ∀ cs ∈ css, OkC P e cs := by
  cases h with
  | int h1 h2 => rw [hu] at h1; cases h1
  | str h1 h2 => rw [hu] at h1; cases h1
  | bool h1 => rw [hu] at h1; cases h1
  | strct _ h1 _ _ => rw [hu] at h1; cases h1
  | slice css h1 h2 h3 => rw [hu] at h1; injection h1 with h1; injection h1 with h1; subst h1; exact ⟨css, rfl, h2, h3⟩
/-- A slice's elements, one by one. -/
theorem elems_of {α : Type} {P : Program} {e : TypeId} {f : α → IV} {ok : α → Prop} (h : ∀ cs, OkC P e cs → ∃ x, elemI (aggT P e) cs = f x ∧ ok x) : ∀ (css : List (List IV)), (∀ cs ∈ css, OkC P e cs) → ∃ L : List α, css.map (elemI (aggT P e)) = L.map f ∧ L.length = css.length ∧ ∀ x ∈ L, ok x
  | [], _ => ⟨[], rfl, rfl, fun x hx => by cases hx⟩
  | cs :: css, hc => by
    obtain ⟨x, h1, h2⟩ := h cs (hc cs List.mem_cons_self)
    obtain ⟨L, h3, h4, h5⟩ := elems_of h css (fun cs h => hc cs (List.mem_cons_of_mem _ h))
    refine ⟨x :: L, by rw [List.map_cons, List.map_cons, h1, h3], by simp [h4], fun y hy => ?_⟩
    rcases List.mem_cons.1 hy with rfl | hy
    · exact h2
    · exact h5 y hy
end
section
variable {H : Type} {enc : TypeId × Value → H} {P : Program} {w : World} {bs : Nat} {spare : Nat → Bool} {held : Bool} {S : List TypeId}
/-- The cells of a value that came in, as plain values. -/
theorem open_cells (hS : closed P S = true) : ∀ (fuel : Nat) (t : TypeId) (cs : List Value) (x : DataW H × List MemPlace), S.contains t = true → DataW.trod enc P w bs spare held fuel t cs = some x →
    ∃ is, RepC (fun b => b < w.heap.size) w is cs ∧ OkC P t is := by
  intro fuel
  induction fuel using Nat.strongRecOn with
  | _ fuel ih =>
  intro t cs x ht h
  have hc := List.all_eq_true.1 hS t (by simpa using ht)
  unfold closedT at hc
  split at hc
  · rename_i k hu
    obtain ⟨n, rfl, _, hw⟩ := DataW.trod_int hu h
    exact ⟨[.int k n], RepC_one' rfl (by unfold RepI; rfl), .int hu hw⟩
  · rename_i hu
    obtain ⟨s, rfl, _, hw⟩ := DataW.trod_string hu h
    exact ⟨[.str s], RepC_one' rfl (by unfold RepI; rfl), .str hu hw⟩
  · rename_i hu
    obtain ⟨b, rfl, _⟩ := DataW.trod_bool hu h
    exact ⟨[.bool b], RepC_one' rfl (by unfold RepI; rfl), .bool hu⟩
  · rename_i fs hu
    rw [Bool.and_eq_true, decide_eq_true_eq] at hc
    obtain ⟨hc1, hc2⟩ := hc
    obtain ⟨xs, n, hn, _, hl, hxl, hf⟩ := DataW.trod_struct hu h
    have each : ∀ i, i < fs.size → ∃ q : List IV, ∀ f : Field, fs[i]? = some f → RepC (fun b => b < w.heap.size) w q ((cs.drop f.offset).take (P.cellsOf f.type)) ∧ OkC P f.type q := by
      intro i hi
      have hfi : fs[i]? = some fs[i] := Array.getElem?_eq_getElem hi
      have h1 := hf i _ hfi
      rw [List.getElem?_eq_getElem (by omega)] at h1
      obtain ⟨q, h2, h3⟩ := ih n (by omega) _ _ _ (List.all_eq_true.1 hc2 fs[i] (by simp)) h1
      refine ⟨q, fun f hf' => ?_⟩
      rw [hfi] at hf'
      injection hf' with hf'
      subst hf'
      exact ⟨h2, h3⟩
    haveI : Inhabited (List IV) := ⟨[]⟩
    obtain ⟨q, hq⟩ := Deep.choose_lt each
    have hat : ∀ (i : Nat) (f : Field) (p : List IV), fs[i]? = some f → ((List.range fs.size).map q)[i]? = some p → p = q i ∧ i < fs.size := by
      intro i f p hf' hp
      have hi : i < fs.size := (Array.getElem?_eq_some_iff.1 hf').1
      rw [List.getElem?_map, List.getElem?_range hi] at hp
      simp only [Option.map_some, Option.some.injEq] at hp
      exact ⟨hp.symm, hi⟩
    refine ⟨((List.range fs.size).map q).flatten, ?_, .strct _ hu (by simp) fun i f p hf' hp => ?_⟩
    · have := parts_rep (P := P) (Q := fun b => b < w.heap.size) (w := w) (cs := cs) fs.toList ((List.range fs.size).map q) 0 _ hc1 (by simp) hl.symm (fun i f p hf' hp => by
        rw [Array.getElem?_toList] at hf'
        obtain ⟨rfl, hi⟩ := hat i f p hf' hp
        exact (hq i hi f hf').1) (Nat.zero_le _)
      simpa using this
    · obtain ⟨rfl, hi⟩ := hat i f p hf' hp
      exact (hq i hi f hf').2
  · rename_i e hu
    rw [Bool.and_eq_true, decide_eq_true_eq] at hc
    obtain ⟨hc1, hc2⟩ := hc
    rcases DataW.trod_slice hu h with ⟨rfl, _⟩ | ⟨a, len, cap, elems, rest, n, hn, rfl, _, _, hle, hm, hel, hall, _, _⟩
    · exact ⟨[.sl (P.cellsOf e) []], RepC_one' rfl (by unfold RepI; exact ⟨none, 0, rfl, Nat.le_refl _, Nat.zero_le _, fun h => absurd h (by simp)⟩), .slice [] hu (Nat.zero_le _) (fun cs h => by cases h)⟩
    · have each : ∀ i, i < len → ∃ q : List IV × List Value, RepC (fun b => b < w.heap.size) w q.1 q.2 ∧ OkC P e q.1 ∧ q.2.length = P.cellsOf e ∧ ∀ j, j < P.cellsOf e → w.cell? (a.add (i * P.cellsOf e + j)) = q.2[j]? := by
        intro i hi
        have h1 := hall i hi
        rw [List.getElem?_eq_getElem (by omega)] at h1
        obtain ⟨cs', h2, h3⟩ := Option.bind_eq_some_iff.1 h1
        obtain ⟨_, hlen, hcell⟩ := World.cells?_some h2
        obtain ⟨q, h4, h5⟩ := ih n (by omega) _ _ _ hc1 h3
        refine ⟨(q, cs'), h4, h5, hlen, fun j hj => ?_⟩
        rw [← Deep.add_add]
        exact hcell j hj
      haveI : Inhabited (List IV × List Value) := ⟨([], [])⟩
      obtain ⟨q, hq⟩ := Deep.choose_lt each
      have hlen : ((List.range len).map fun i => (q i).1).length = len := by simp
      refine ⟨[.sl (P.cellsOf e) (((List.range len).map fun i => (q i).1).map (elemI (aggT P e)))], RepC_one' rfl ?_, .slice _ hu (by rw [hlen]; omega) fun cs hcs => ?_⟩
      · unfold RepI
        refine ⟨some a, cap, by simp, by simp; exact hle, hm, fun hp => ?_⟩
        have hpos : 0 < len := by simpa using hp
        obtain ⟨_, _, g3, g4⟩ := hq 0 hpos
        have h1 := g4 0 hc2
        rw [List.getElem?_eq_getElem (by omega)] at h1
        have hsp := World.cell?_spot h1
        have hbl := World.block_lt_of_cell? w _ h1
        obtain ⟨b, off, sp⟩ := a
        have hsp' : sp = none := by simpa [Addr.add] using hsp
        subst hsp'
        rw [add_plain] at hbl
        refine ⟨b, off, rfl, hbl, RepR_of _ _ fun i x hx => ?_⟩
        rw [List.map_map, List.getElem?_map] at hx
        cases hi : (List.range len)[i]? with
        | none => rw [hi] at hx; cases hx
        | some i' =>
          rw [hi] at hx
          have hil : i < len := by have := (List.getElem?_eq_some_iff.1 hi).1; simpa using this
          rw [List.getElem?_range hil] at hi
          injection hi with hi
          subst hi
          simp only [Option.map_some, Option.some.injEq, Function.comp] at hx
          subst hx
          obtain ⟨g1, g2, g3, g4⟩ := hq i hil
          have hcell : ∀ j u, (q i).2[j]? = some u → w.cell? ⟨b, off + i * P.cellsOf e + j, none⟩ = some u := by
            intro j u hj
            have hjl : j < P.cellsOf e := by have := (List.getElem?_eq_some_iff.1 hj).1; omega
            have := g4 j hjl
            rw [add_plain, ← Nat.add_assoc, hj] at this
            exact this
          cases ha : aggT P e with
          | true =>
            refine ⟨.agg (q i).2.toArray, ?_, by show (q i).2.toArray.size = _; simpa using g3, fun j u hj => hcell j u ?_⟩
            · show RepI _ w (.agg (q i).1) _
              exact RepI_agg.2 ⟨_, rfl, g1⟩
            · have : (Value.agg (q i).2.toArray).cells = (q i).2.toArray := rfl
              rw [this] at hj
              simpa using hj
          | false =>
            obtain ⟨y, hy⟩ := g2.len1 ha
            rw [hy] at g1
            unfold RepC at g1
            obtain ⟨v, r, e1, h0, h2, h3⟩ := g1
            unfold RepC at h3
            subst h3
            have hv : v.cells = #[v] := by cases v <;> first | rfl | (simp [one, Value.oneCell'] at h0)
            refine ⟨v, ?_, ?_, fun j u hj => hcell j u ?_⟩
            · show RepI _ w (elemI false (q i).1) v
              rw [hy]
              exact h2
            · rw [hv, ← g3, e1]; rfl
            · rw [hv] at hj
              rw [e1]
              simpa using hj
      · obtain ⟨i, hi, rfl⟩ := List.mem_map.1 hcs
        exact (hq i (List.mem_range.1 hi)).2.1
  · cases hc
/-- A slice that came in. -/
theorem open_sl (hS : closed P S = true) {t e : TypeId} {a : Option Addr} {n c : Nat} {d : DataW H} {p : List MemPlace} (ht : S.contains t = true) (hu : P.underlying t = some (.slice e))
    (h : ∃ fuel, DataW.trod enc P w bs spare held fuel t (Value.slice a n c).cells.toList = some (d, p)) : ∃ css : List (List IV), RepI (fun b => b < w.heap.size) w (.sl (P.cellsOf e) (css.map (elemI (aggT P e)))) (.slice a n c) ∧ css.length ≤ maxLen ∧ ∀ cs ∈ css, OkC P e cs := by
  obtain ⟨fuel, hf⟩ := h
  obtain ⟨is, h1, h2⟩ := open_cells hS fuel t _ _ ht hf
  obtain ⟨css, rfl, h3, h4⟩ := h2.slice_inv hu
  refine ⟨css, ?_, h3, h4⟩
  unfold RepC at h1
  obtain ⟨v, r, e1, _, h5, h6⟩ := h1
  have : (Value.slice a n c).cells.toList = [Value.slice a n c] := rfl
  rw [this] at e1
  injection e1 with e1 _
  rw [e1]
  exact h5
end
end Go.Pv
