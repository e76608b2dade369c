/-
  Plain values: a region whose order is drawn: whatever order, the same plain values. Plain values: the region's law, in whatever order. Plain values: code, loops, what a call hands back; a call that only reads and makes. Plain values: what a call hands back; calls of plain values alone. Plain values: a row that nobody will write any more; a nil slice that will be appended to.
-/
import Derived.Test.YtbkbmeciaippmaaDoorP2
namespace Go.Pv
open Go.RowKit (Below)

/-- The operations that must have come up before each one. -/
def insAll (l : List Nat) : List Nat → List Nat
  | [] => l
  | x :: r => insAll (if l.contains x then l else x :: l) r
def ancs : List Oper → List (List Nat) → List (List Nat)
  | [], acc => acc
  | o :: r, acc => ancs r (acc ++ [o.after.toList.foldl (fun s e => if Region.binds .any e then insAll s (e.on :: acc.getD e.on []) else s) []])
def backB (ops : List Oper) (i : Nat) : Bool :=
  match ops with
  | [] => true
  | o :: r => (o.after.toList.all fun e => !Region.binds .any e || decide (e.on < i)) && backB r (i + 1)
def hasKey (ws : List (Nat × Blk)) (r : Nat) : Bool := ws.any fun x => x.1 == r
/-- Two operations of which one writes what the other reads or writes. -/
def clash (x y : Eff) : Bool :=
  (match x.dst with
    | some d => y.tr.contains d || y.dst == some d
    | none => false) ||
  (match y.dst with
    | some d => x.tr.contains d
    | none => false) ||
  x.ws.any (fun q => y.br.contains q.1 || hasKey y.ws q.1) || y.ws.any (fun q => x.br.contains q.1)
def apartB (es : List Eff) (an : List (List Nat)) : Bool :=
  (List.range es.length).all fun j => (List.range j).all fun i =>
    match es[i]?, es[j]? with
    | some x, some y => !clash x y || (an.getD j []).contains i
    | _, _ => false
def fitB (s : St) (es : List Eff) : Bool :=
  es.all fun e => (match e.dst with
    | some d => decide (d < s.E.length)
    | none => true) && e.ws.all fun q => decide (q.1 < s.B.length)

/-! ### The order -/
theorem insAll_mem {x : Nat} : ∀ (r l : List Nat), x ∈ insAll l r → x ∈ l ∨ x ∈ r
  | [], l, h => Or.inl h
  | y :: r, l, h => by
    unfold insAll at h
    rcases insAll_mem r _ h with h | h
    · split at h
      · exact Or.inl h
      · rcases List.mem_cons.1 h with rfl | h
        · exact Or.inr List.mem_cons_self
        · exact Or.inl h
    · exact Or.inr (List.mem_cons_of_mem _ h)
/-- 'i' comes up ahead of 'j' in every order. -/
inductive Ahead (ops : List Oper) : Nat → Nat → Prop
  | one {i j : Nat} {o : Oper} {e : Edge} : ops[j]? = some o → e ∈ o.after → Region.binds .any e = true → e.on = i → Ahead ops i j
  | more {i j m : Nat} : Ahead ops i m → Ahead ops m j → Ahead ops i j
theorem foldl_mem {acc : List (List Nat)} {x : Nat} : ∀ (l : List Edge) (s : List Nat), x ∈ l.foldl (fun s e => if Region.binds .any e then insAll s (e.on :: acc.getD e.on []) else s) s →
    x ∈ s ∨ ∃ e ∈ l, Region.binds .any e = true ∧ (x = e.on ∨ x ∈ acc.getD e.on [])
  | [], s, h => Or.inl h
  | e :: l, s, h => by
    simp only [List.foldl_cons] at h
    rcases foldl_mem l _ h with h | ⟨e', h1, h2⟩
    · split at h
      · rename_i hb
        rcases insAll_mem _ _ h with h | h
        · exact Or.inl h
        · rcases List.mem_cons.1 h with h | h
          · exact Or.inr ⟨e, List.mem_cons_self, hb, Or.inl h⟩
          · exact Or.inr ⟨e, List.mem_cons_self, hb, Or.inr h⟩
      · exact Or.inl h
    · exact Or.inr ⟨e', List.mem_cons_of_mem _ h1, h2⟩
theorem ancs_spec (ops : List Oper) : ∀ (l : List Oper) (acc : List (List Nat)), (∀ j, l[j]? = ops[acc.length + j]?) → (∀ j i, i ∈ acc.getD j [] → Ahead ops i j) → ∀ j i, i ∈ (ancs l acc).getD j [] → Ahead ops i j
  | [], acc, _, hacc, j, i, h => hacc j i h
  | o :: l, acc, hl, hacc, j, i, h => by
    unfold ancs at h
    refine ancs_spec ops l _ (fun q => ?_) (fun q x hx => ?_) j i h
    · have := hl (q + 1)
      simp only [List.getElem?_cons_succ] at this
      rw [this, List.length_append, List.length_singleton]
      congr 1
      omega
    · rw [List.getD_eq_getElem?_getD] at hx
      rcases Nat.lt_trichotomy q acc.length with hq | hq | hq
      · rw [List.getElem?_append_left hq, ← List.getD_eq_getElem?_getD] at hx
        exact hacc q x hx
      · subst hq
        rw [List.getElem?_append_right (Nat.le_refl _)] at hx
        simp only [Nat.sub_self, List.getElem?_cons_zero, Option.getD_some] at hx
        have ho : ops[acc.length]? = some o := by simpa using (hl 0).symm
        rcases foldl_mem _ _ hx with hx | ⟨e, he, hb, hx⟩
        · cases hx
        · have h1 : Ahead ops e.on acc.length := .one ho (by simpa using he) hb rfl
          rcases hx with rfl | hx
          · exact h1
          · exact .more (hacc _ _ hx) h1
      · rw [List.getElem?_eq_none (by rw [List.length_append, List.length_singleton]; omega)] at hx
        cases hx
/-- What has come up is closed. -/
def Closed (ops : List Oper) (p : Nat → Bool) : Prop := ∀ j o, ops[j]? = some o → p j = true → ∀ e ∈ o.after, Region.binds .any e = true → p e.on = true
theorem Closed.ahead {ops : List Oper} {p : Nat → Bool} (h : Closed ops p) {i j : Nat} (ha : Ahead ops i j) : p j = true → p i = true := by
  induction ha with
  | one ho he hb hi => intro hj; rw [← hi]; exact h _ _ ho hj _ he hb
  | more _ _ ih1 ih2 => exact fun hj => ih1 (ih2 hj)

/-! ### What stands where -/
/-- A slot, or a block. -/
inductive Spot
  | slot (t : Nat)
  | blk (r : Nat)
inductive Thing
  | pv (p : PV)
  | bk (b : Blk)
def wrB : List (Nat × Blk) → Nat → Option Blk
  | [], _ => none
  | (r', b) :: ws, r => match wrB ws r with
    | some x => some x
    | none => if r' = r then some b else none
def wr (e : Eff) : Spot → Option Thing
  | .slot t => if e.dst = some t then some (.pv e.v) else none
  | .blk r => (wrB e.ws r).map .bk
def gets (s : St) : Spot → Option Thing
  | .slot t => (s.E[t]?).map .pv
  | .blk r => (s.B[r]?).map .bk
def fitE (s : St) (e : Eff) : Prop := (∀ d, e.dst = some d → d < s.E.length) ∧ ∀ q ∈ e.ws, q.1 < s.B.length
theorem setB_get : ∀ (ws : List (Nat × Blk)) (B : List Blk), (∀ q ∈ ws, q.1 < B.length) → ∀ r, (setB B ws)[r]? = match wrB ws r with
    | some x => some x
    | none => B[r]?
  | [], B, _, r => rfl
  | (r', b) :: ws, B, h, r => by
    unfold setB wrB
    rw [setB_get ws _ (fun q hq => by rw [List.length_set]; exact h q (List.mem_cons_of_mem _ hq)) r]
    cases hw : wrB ws r with
    | some x => rfl
    | none =>
      simp only
      have hlt : r' < B.length := h _ List.mem_cons_self
      by_cases e : r' = r
      · subst e
        simp [List.getElem?_set_self hlt]
      · simp only [e, if_false]
        rw [List.getElem?_set_ne e]
theorem gets_apply {s : St} {e : Eff} (h : fitE s e) (x : Spot) : gets (applyE s e) x = match wr e x with
    | some t => some t
    | none => gets s x := by
  cases x with
  | slot t =>
    unfold gets wr applyE setE
    cases hd : e.dst with
    | none => simp
    | some d =>
      have hlt := h.1 d hd
      by_cases hdt : d = t
      · subst hdt
        simp [List.getElem?_set_self hlt]
      · simp [hdt, List.getElem?_set_ne hdt]
  | blk r =>
    unfold gets wr applyE
    simp only
    rw [setB_get e.ws s.B h.2 r]
    cases wrB e.ws r <;> rfl
theorem apply_len (s : St) (e : Eff) : (applyE s e).E.length = s.E.length ∧ (applyE s e).B.length = s.B.length := by
  refine ⟨?_, setB_len _ _⟩
  unfold applyE setE
  cases e.dst <;> simp
theorem St.ext_gets {s s' : St} (h1 : s.E.length = s'.E.length) (h2 : s.B.length = s'.B.length) (h : ∀ x, gets s x = gets s' x) : s = s' := by
  cases s with
  | mk E B =>
    cases s' with
    | mk E' B' =>
      have e1 : E = E' := by
        apply List.ext_getElem? 
        intro t
        have := h (.slot t)
        simp only [gets] at this
        cases hx : E[t]? <;> cases hy : E'[t]? <;> simp_all
      have e2 : B = B' := by
        apply List.ext_getElem? 
        intro t
        have := h (.blk t)
        simp only [gets] at this
        cases hx : B[t]? <;> cases hy : B'[t]? <;> simp_all
      rw [e1, e2]
/-- Those operations alone that 'p' names, in the order of the text. -/
def sel : List Eff → (Nat → Bool) → Nat → St → St
  | [], _, _, s => s
  | e :: es, p, i, s => sel es p (i + 1) (if p i then applyE s e else s)
theorem sel_len : ∀ (es : List Eff) (p : Nat → Bool) (i : Nat) (s : St), (sel es p i s).E.length = s.E.length ∧ (sel es p i s).B.length = s.B.length
  | [], _, _, _ => ⟨rfl, rfl⟩
  | e :: es, p, i, s => by
    unfold sel
    obtain ⟨h1, h2⟩ := sel_len es p (i + 1) (if p i then applyE s e else s)
    rw [h1, h2]
    split
    · exact apply_len s e
    · exact ⟨rfl, rfl⟩
def lastw : List Eff → (Nat → Bool) → Nat → Spot → Option Thing → Option Thing
  | [], _, _, _, x => x
  | e :: es, p, i, l, x => lastw es p (i + 1) l (if p i then (match wr e l with
    | some t => some t
    | none => x) else x)
theorem fitE_len {s s' : St} {e : Eff} (h1 : s.E.length = s'.E.length) (h2 : s.B.length = s'.B.length) (h : fitE s e) : fitE s' e := ⟨fun d hd => by rw [← h1]; exact h.1 d hd, fun q hq => by rw [← h2]; exact h.2 q hq⟩
theorem gets_sel : ∀ (es : List Eff) (p : Nat → Bool) (i : Nat) (s : St) (l : Spot), (∀ e ∈ es, fitE s e) → gets (sel es p i s) l = lastw es p i l (gets s l)
  | [], _, _, _, _, _ => rfl
  | e :: es, p, i, s, l, h => by
    unfold sel lastw
    rw [gets_sel es p (i + 1) _ l (fun e' he' => by
      split
      · exact fitE_len (apply_len s e).1.symm (apply_len s e).2.symm (h e' (List.mem_cons_of_mem _ he'))
      · exact h e' (List.mem_cons_of_mem _ he'))]
    congr 1
    split
    · exact gets_apply (h e List.mem_cons_self) l
    · rfl
theorem lastw_same {l : Spot} : ∀ (es : List Eff) (p q : Nat → Bool) (i : Nat) (x : Option Thing), (∀ j e, es[j]? = some e → wr e l ≠ none → p (i + j) = q (i + j)) → lastw es p i l x = lastw es q i l x
  | [], _, _, _, _, _ => rfl
  | e :: es, p, q, i, x, h => by
    unfold lastw
    have e0 : (if p i then (match wr e l with
        | some t => some t
        | none => x) else x) = (if q i then (match wr e l with
        | some t => some t
        | none => x) else x) := by
      cases hw : wr e l with
      | none => simp
      | some t =>
        have := h 0 e rfl (by rw [hw]; simp)
        simp only [Nat.add_zero] at this
        rw [this]
    rw [e0]
    exact lastw_same es p q (i + 1) _ (fun j e' he' hw => by have := h (j + 1) e' (by simpa using he') hw; simpa [Nat.add_assoc, Nat.add_comm 1 j] using this)
theorem lastw_at {l : Spot} {t : Thing} : ∀ (es : List Eff) (p : Nat → Bool) (i j : Nat) (e : Eff) (x : Option Thing), es[j]? = some e → wr e l = some t → p (i + j) = true → (∀ m e', j < m → es[m]? = some e' → wr e' l ≠ none → p (i + m) = false) → lastw es p i l x = some t
  | [], _, _, _, _, _, h, _, _, _ => by simp at h
  | e0 :: es, p, i, 0, e, x, h, hw, hp, hn => by
    simp only [List.getElem?_cons_zero, Option.some.injEq] at h
    subst h
    unfold lastw
    simp only [Nat.add_zero] at hp
    rw [hw, hp]
    simp only [if_true]
    rw [lastw_same es p (fun _ => false) (i + 1) _ (fun m e' he' hw' => by
      have := hn (m + 1) e' (by omega) (by simpa using he') hw'
      simpa [Nat.add_assoc, Nat.add_comm 1 m] using this)]
    have key : ∀ (es : List Eff) (i : Nat) (x : Option Thing), lastw es (fun _ => false) i l x = x := by
      intro es
      induction es with
      | nil => intro i x; rfl
      | cons e es ih => intro i x; unfold lastw; simpa using ih (i + 1) x
    exact key _ _ _
  | e0 :: es, p, i, j + 1, e, x, h, hw, hp, hn => by
    unfold lastw
    refine lastw_at es p (i + 1) j e _ (by simpa using h) hw (by simpa [Nat.add_assoc, Nat.add_comm 1 j] using hp) (fun m e' hm he' hw' => ?_)
    have := hn (m + 1) e' (by omega) (by simpa using he') hw'
    simpa [Nat.add_assoc, Nat.add_comm 1 m] using this
/-- What an operation reads. -/
def reads (e : Eff) : Spot → Bool
  | .slot t => e.tr.contains t
  | .blk r => e.br.contains r
theorem wrB_key : ∀ (ws : List (Nat × Blk)) (r : Nat), wrB ws r ≠ none → ∃ q ∈ ws, q.1 = r
  | [], _, h => absurd rfl h
  | (r', b) :: ws, r, h => by
    unfold wrB at h
    cases hw : wrB ws r with
    | some x =>
      obtain ⟨q, h1, h2⟩ := wrB_key ws r (by rw [hw]; simp)
      exact ⟨q, List.mem_cons_of_mem _ h1, h2⟩
    | none =>
      rw [hw] at h
      simp only at h
      split at h
      · rename_i e; exact ⟨_, List.mem_cons_self, e⟩
      · exact absurd rfl h
theorem clash_wr {x y : Eff} {l : Spot} (hx : wr x l ≠ none) (hy : reads y l = true ∨ wr y l ≠ none) : clash x y = true := by
  unfold clash
  cases l with
  | slot t =>
    unfold wr at hx hy
    have hxd : x.dst = some t := by
      by_cases h : x.dst = some t
      · exact h
      · simp [h] at hx
    rw [hxd]
    rcases hy with hy | hy
    · unfold reads at hy
      simp only at hy
      simp at hy
      simp [hy]
    · have hyd : y.dst = some t := by
        by_cases h : y.dst = some t
        · exact h
        · simp [h] at hy
      simp [hyd]
  | blk r =>
    unfold wr at hx hy
    have hx' : wrB x.ws r ≠ none := by intro h; simp [h] at hx
    obtain ⟨q, hq, hqr⟩ := wrB_key _ _ hx'
    have : (x.ws.any fun q => y.br.contains q.1 || hasKey y.ws q.1) = true := by
      rw [List.any_eq_true]
      refine ⟨q, hq, ?_⟩
      rw [hqr]
      rcases hy with hy | hy
      · unfold reads at hy; simp only at hy; rw [hy]; rfl
      · have hy' : wrB y.ws r ≠ none := by intro h; simp [h] at hy
        obtain ⟨q', hq', hqr'⟩ := wrB_key _ _ hy'
        have : hasKey y.ws r = true := by
          unfold hasKey
          rw [List.any_eq_true]
          exact ⟨q', hq', by simpa using hqr'⟩
        rw [this, Bool.or_true]
    rw [this]
    simp
theorem clash_rd {x y : Eff} {l : Spot} (hx : reads x l = true) (hy : wr y l ≠ none) : clash x y = true := by
  unfold clash
  cases l with
  | slot t =>
    unfold wr at hy
    have hyd : y.dst = some t := by
      by_cases h : y.dst = some t
      · exact h
      · simp [h] at hy
    unfold reads at hx
    simp only at hx
    rw [hyd]
    simp only [hx, Bool.or_true, Bool.true_or]
  | blk r =>
    unfold wr at hy
    have hy' : wrB y.ws r ≠ none := by intro h; simp [h] at hy
    obtain ⟨q, hq, hqr⟩ := wrB_key _ _ hy'
    have : (y.ws.any fun q => x.br.contains q.1) = true := by
      rw [List.any_eq_true]
      unfold reads at hx
      simp only at hx
      exact ⟨q, hq, by rw [hqr]; exact hx⟩
    rw [this, Bool.or_true]
end Go.Pv

namespace Go.Pv
open Go.RowKit (Below)

theorem gets_slot {s s' : St} {t : Nat} (h : gets s (.slot t) = gets s' (.slot t)) : s.E.getD t .any = s'.E.getD t .any := by
  unfold gets at h
  simp only at h
  rw [List.getD_eq_getElem?_getD, List.getD_eq_getElem?_getD]
  cases hx : s.E[t]? <;> cases hy : s'.E[t]? <;> simp_all
theorem gets_blk {s s' : St} {t : Nat} (h : gets s (.blk t) = gets s' (.blk t)) : s.B[t]? = s'.B[t]? := by
  unfold gets at h
  simp only at h
  cases hx : s.B[t]? <;> cases hy : s'.B[t]? <;> simp_all
theorem wantE_same {ops : Array Oper} {s s' : St} {o : Oper} (h : ∀ t ∈ gtr ops o, s.E.getD t .any = s'.E.getD t .any) : wantE ops s.E o = wantE ops s'.E o := by
  unfold wantE
  cases hg : o.guard with
  | none => rfl
  | some q =>
    obtain ⟨j, want⟩ := q
    simp only
    cases hd : (ops[j]?).bind (·.dst) with
    | none => rfl
    | some d =>
      have := h d (by unfold gtr; rw [hg]; simp only; rw [hd]; simp)
      simp only
      rw [this]
theorem evr_same {Γ : Ctx} {s s' : St} {tr : List Nat} (h : ∀ t ∈ tr, s.E.getD t .any = s'.E.getD t .any) : evr Γ s.E tr = evr Γ s'.E tr := by
  funext x
  cases x with
  | tmp t =>
    simp only [evr]
    by_cases ht : tr.contains t = true
    · rw [if_pos ht, if_pos ht]
      exact h t (by simpa using ht)
    · rw [if_neg ht, if_neg ht]
  | _ => rfl
theorem eff_agree {P : Program} {Γ : Ctx} {ops : Array Oper} {s s' : St} {o : Oper} {id : Nat} {cr : List Orc} {e : Eff} (h : effO P Γ ops s o id cr = some e) (hs : ∀ l, reads e l = true → gets s l = gets s' l) : effO P Γ ops s' o id cr = some e := by
  have hg : ∀ t ∈ gtr ops o, t ∈ e.tr := by
    intro t ht
    unfold effO at h
    split at h
    · cases h
    · simp only [Option.some.injEq] at h; subst h; exact ht
    · split at h
      · simp only [Option.some.injEq] at h; subst h; exact List.mem_append_left _ ht
      · cases h
  have hslot : ∀ t ∈ e.tr, s.E.getD t .any = s'.E.getD t .any := fun t ht => gets_slot (hs (.slot t) (by unfold reads; simpa using ht))
  have hw := wantE_same (ops := ops) (o := o) (s := s) (s' := s') (fun t ht => hslot t (hg t ht))
  unfold effO at h ⊢
  rw [← hw]
  split at h
  · cases h
  · exact h
  · split at h
    · rename_i out hout
      simp only [Option.some.injEq] at h
      have htr : ∀ t ∈ trOf o, s.E.getD t .any = s'.E.getD t .any := fun t ht => hslot t (by rw [← h]; exact List.mem_append_right _ ht)
      have hev := evr_same (Γ := Γ) htr
      rw [← hev]
      have hget : (fun r => if (brOf o (evr Γ s.E (trOf o)) cr id).contains r then s'.B[r]? else none) = (fun r => if (brOf o (evr Γ s.E (trOf o)) cr id).contains r then s.B[r]? else none) := by
        funext r
        split
        · rename_i hc
          exact (gets_blk (hs (.blk r) (by unfold reads; rw [← h]; exact hc))).symm
        · rfl
      rw [hget, hout]
      simp only
      rw [h]
    · cases h
theorem runO_len {P : Program} {Γ : Ctx} {ops : Array Oper} : ∀ {l : List Oper} {id : Nat} {cr : List Orc} {s : St} {es : List Eff}, runO P Γ ops l id cr s = some es → es.length = l.length
  | [], _, _, _, es, h => by simp only [runO, Option.some.injEq] at h; subst h; rfl
  | o :: l, _, _, _, es, h => by
    unfold runO at h
    split at h
    · cases h
    · split at h
      · rename_i es' hes
        simp only [Option.some.injEq] at h
        subst h
        rw [List.length_cons, List.length_cons, runO_len hes]
      · cases h
theorem runO_at {P : Program} {Γ : Ctx} {ops : Array Oper} : ∀ {l : List Oper} {id : Nat} {cr : List Orc} {s : St} {es : List Eff}, runO P Γ ops l id cr s = some es → ∀ (i : Nat) (o : Oper), l[i]? = some o →
    ∃ e id' cr', es[i]? = some e ∧ effO P Γ ops ((es.take i).foldl applyE s) o id' cr' = some e
  | [], _, _, _, _, _, i, o, ho => by simp at ho
  | x :: l, id, cr, s, es, h, i, o, ho => by
    unfold runO at h
    split at h
    · cases h
    · rename_i e he
      split at h
      · rename_i es' hes
        simp only [Option.some.injEq] at h
        subst h
        cases i with
        | zero =>
          simp only [List.getElem?_cons_zero, Option.some.injEq] at ho
          subst ho
          exact ⟨e, id, cr, rfl, he⟩
        | succ i =>
          obtain ⟨e', id', cr', h1, h2⟩ := runO_at hes i o (by simpa using ho)
          exact ⟨e', id', cr', by simpa using h1, by simpa using h2⟩
      · cases h
theorem sel_take : ∀ (es : List Eff) (i k : Nat) (s : St), sel es (fun j => decide (j < k + i)) k s = (es.take i).foldl applyE s
  | [], i, k, s => by simp [sel]
  | e :: es, 0, k, s => by
    unfold sel
    simp only [Nat.add_zero, Nat.lt_irrefl, decide_false, Bool.false_eq_true, if_false, List.take_zero, List.foldl_nil]
    have key : ∀ (es : List Eff) (q : Nat), k ≤ q → sel es (fun j => decide (j < k)) q s = s := by
      intro es
      induction es with
      | nil => intro q _; rfl
      | cons e es ih => intro q hq; unfold sel; rw [if_neg (by simp; omega)]; exact ih (q + 1) (by omega)
    exact key es (k + 1) (by omega)
  | e :: es, i + 1, k, s => by
    unfold sel
    rw [if_pos (by simp)]
    have := sel_take es i (k + 1) (applyE s e)
    simp only [List.take_succ_cons, List.foldl_cons]
    rw [← this]
    congr 1
    funext j
    congr 1
    rw [show k + (i + 1) = k + 1 + i by omega]
theorem sel_all : ∀ (es : List Eff) (p : Nat → Bool) (k : Nat) (s : St), (∀ j, j < es.length → p (k + j) = true) → sel es p k s = es.foldl applyE s
  | [], _, _, _, _ => rfl
  | e :: es, p, k, s, h => by
    unfold sel
    rw [if_pos (by simpa using h 0 (by simp))]
    simp only [List.foldl_cons]
    exact sel_all es p (k + 1) _ (fun j hj => by have := h (j + 1) (by simp; omega); simpa [Nat.add_assoc, Nat.add_comm 1 j] using this)
theorem sel_none : ∀ (es : List Eff) (p : Nat → Bool) (k : Nat) (s : St), (∀ j, p j = false) → sel es p k s = s
  | [], _, _, _, _ => rfl
  | e :: es, p, k, s, h => by
    unfold sel
    rw [h k]
    simpa using sel_none es p (k + 1) s h
theorem back_spec : ∀ {l : List Oper} {k : Nat}, backB l k = true → ∀ j o, l[j]? = some o → ∀ e ∈ o.after, Region.binds .any e = true → e.on < k + j
  | [], _, _, j, o, ho => by simp at ho
  | x :: l, k, h, j, o, ho => by
    unfold backB at h
    rw [Bool.and_eq_true] at h
    intro e he hb
    cases j with
    | zero =>
      simp only [List.getElem?_cons_zero, Option.some.injEq] at ho
      subst ho
      have := List.all_eq_true.1 h.1 e (by simpa using he)
      simp [hb] at this
      omega
    | succ j =>
      have := back_spec h.2 j o (by simpa using ho) e he hb
      omega
theorem apart_spec {es : List Eff} {an : List (List Nat)} (h : apartB es an = true) {i j : Nat} {x y : Eff} (hij : i < j) (hi : es[i]? = some x) (hj : es[j]? = some y) (hc : clash x y = true) : i ∈ an.getD j [] := by
  unfold apartB at h
  have hlt := (List.getElem?_eq_some_iff.1 hj).1
  have h1 := List.all_eq_true.1 h j (List.mem_range.2 hlt)
  have h2 := List.all_eq_true.1 h1 i (List.mem_range.2 hij)
  rw [hi, hj] at h2
  simp only [hc, Bool.not_true, Bool.false_or] at h2
  simpa using h2
theorem fit_spec {s : St} {es : List Eff} (h : fitB s es = true) : ∀ e ∈ es, fitE s e := by
  intro e he
  unfold fitB at h
  have h1 := List.all_eq_true.1 h e he
  rw [Bool.and_eq_true] at h1
  refine ⟨fun d hd => ?_, fun q hq => ?_⟩
  · have := h1.1
    rw [hd] at this
    simpa using this
  · have := List.all_eq_true.1 h1.2 q hq
    simpa using this
theorem cnt_lt {p p' : Nat → Bool} {i : Nat} (hsub : ∀ x, p x = true → p' x = true) (hi : p i = false) (hi' : p' i = true) : ∀ l : List Nat, i ∈ l → l.countP (fun x => !p' x) < l.countP (fun x => !p x)
  | [], h => by cases h
  | x :: l, h => by
    have mono : ∀ l : List Nat, l.countP (fun x => !p' x) ≤ l.countP (fun x => !p x) := by
      intro l
      apply List.countP_mono_left
      intro x _ hx
      cases hp : p x with
      | false => rfl
      | true => rw [hsub x hp] at hx; cases hx
    rw [List.countP_cons, List.countP_cons]
    rcases List.mem_cons.1 h with rfl | h
    · rw [hi, hi']
      have := mono l
      simp
      omega
    · have := cnt_lt hsub hi hi' l h
      have h2 : (if (!p' x) = true then 1 else 0) ≤ (if (!p x) = true then 1 else 0) := by
        cases hp : p x with
        | false => split <;> simp
        | true => rw [hsub x hp]; simp
      omega
theorem getD_put (listed : Array Bool) (i j : Nat) (hi : i < listed.size) : (listed.setIfInBounds i true).getD j false = (decide (j = i) || listed.getD j false) := by
  rw [Array.getD_eq_getD_getElem?, Array.getD_eq_getD_getElem?]
  by_cases h : j = i
  · subst h
    simp [hi]
  · rw [Array.getElem?_setIfInBounds_ne (Ne.symm h)]
    simp [h]
section
variable {P : Program} {Γ : Ctx} {ops : Array Oper} {Q : Exit → Act → World → Prop} {s : St} {es : List Eff} {id : Nat} {cr : List Orc}
theorem any_sound (hX : EqsOK P Γ.eqT) (hrun : runO P Γ ops ops.toList id cr s = some es) (hback : backB ops.toList 0 = true) (hfit : fitB s es = true) (hap : apartB es (ancs ops.toList []) = true) (hob : ∀ e ∈ es, ∀ ob, e.ob = some ob → FCalls P Γ ob)
    (hq : ∀ a' w', γ Γ (es.foldl applyE s) a' w' → Q .normal a' w') : ∀ (fuel : Nat) (listed : Array Bool) (a : Act) (w : World), listed.size = ops.size → Closed ops.toList (fun i => listed.getD i false) →
    (List.range ops.size).countP (fun i => !listed.getD i false) ≤ fuel → γ Γ (sel es (fun i => listed.getD i false) 0 s) a w → wpAny P .any ops Q fuel listed a w := by
  have hlen : es.length = ops.size := by rw [runO_len hrun, Array.length_toList]
  have hfitE := fit_spec hfit
  have hanc := ancs_spec ops.toList ops.toList [] (fun j => by simp) (fun j i h => by simp at h)
  have done : ∀ (listed : Array Bool) (a : Act) (w : World), (∀ j, j < ops.size → listed.getD j false = true) → γ Γ (sel es (fun i => listed.getD i false) 0 s) a w → Q .normal a w := by
    intro listed a w hall hg
    rw [sel_all es _ 0 s (fun j hj => by rw [Nat.zero_add]; exact hall j (by omega))] at hg
    exact hq a w hg
  have some_ready : ∀ (listed : Array Bool), listed.size = ops.size → Region.ready .any ops listed = [] → ∀ j, j < ops.size → listed.getD j false = true := by
    intro listed hs hr j
    induction j using Nat.strongRecOn with
    | _ j ih =>
      intro hj
      cases hp : listed.getD j false with
      | true => rfl
      | false =>
        exfalso
        have hm : j ∈ Region.ready .any ops listed := by
          rw [mem_ready]
          refine ⟨?_, ops[j], by simp [hj], fun e he hb => ?_⟩
          · rw [Array.getD_eq_getD_getElem?] at hp ⊢
            cases hx : listed[j]? with
            | none => rw [Array.getElem?_eq_none_iff] at hx; omega
            | some b => rw [hx] at hp; simpa using hp
          · have := back_spec hback j ops[j] (by simp [hj]) e he hb
            exact ih e.on (by omega) (by omega)
        rw [hr] at hm
        cases hm
  intro fuel
  induction fuel with
  | zero =>
    intro listed a w hs hcl hcnt hg
    have hall : ∀ j, j < ops.size → listed.getD j false = true := by
      intro j hj
      have := List.countP_eq_zero.1 (Nat.le_zero.1 hcnt) j (List.mem_range.2 hj)
      simpa using this
    refine ⟨?_, done listed a w hall hg⟩
    apply List.eq_nil_iff_forall_not_mem.2
    intro j hj
    obtain ⟨h0, o, ho, _⟩ := mem_ready.1 hj
    have hlt : j < ops.size := (Array.getElem?_eq_some_iff.1 ho).1
    have h1 := hall j hlt
    rw [Array.getD_eq_getD_getElem?] at h0 h1
    cases hx : listed[j]? with
    | none => rw [Array.getElem?_eq_none_iff] at hx; omega
    | some b => rw [hx] at h0 h1; simp at h0 h1; rw [h0] at h1; cases h1
  | succ fuel ih =>
    intro listed a w hs hcl hcnt hg
    refine ⟨fun hr => done listed a w (some_ready listed hs hr) hg, fun i hi => ?_⟩
    obtain ⟨h0, o, ho, hall⟩ := mem_ready.1 hi
    have hlt : i < ops.size := (Array.getElem?_eq_some_iff.1 ho).1
    have hls : i < listed.size := by omega
    have hp0 : listed.getD i false = false := by
      rw [Array.getD_eq_getD_getElem?] at h0 ⊢
      cases hx : listed[i]? with
      | none => rfl
      | some b => rw [hx] at h0; simpa using h0
    have hol : ops.toList[i]? = some o := by simpa using ho
    obtain ⟨e, id', cr', he, heff⟩ := runO_at hrun i o hol
    have hclash : ∀ {x y : Nat} {ex ey : Eff}, x < y → es[x]? = some ex → es[y]? = some ey → clash ex ey = true → Ahead ops.toList x y := fun hxy hx hy hc => hanc _ _ (apart_spec hap hxy hx hy hc)
    -- what the operation reads is what it read in the text's order
    have hread : ∀ l, reads e l = true → gets ((es.take i).foldl applyE s) l = gets (sel es (fun j => listed.getD j false) 0 s) l := by
      intro l hl
      have h1 := sel_take es i 0 s
      rw [← h1, gets_sel _ _ _ _ _ hfitE, gets_sel _ _ _ _ _ hfitE]
      refine lastw_same es _ _ 0 _ (fun j ej hj hw => ?_)
      simp only [Nat.zero_add]
      rcases Nat.lt_trichotomy j i with hji | hji | hji
      · have hc := clash_wr hw (Or.inl hl)
        have hA := hclash hji hj he hc
        have : ∀ m, Ahead ops.toList m i → listed.getD m false = true := by
          intro m hm
          have key : ∀ x y, Ahead ops.toList x y → y = i → listed.getD x false = true := by
            intro x y hxy
            induction hxy with
            | one ho' he' hb' hi' =>
              intro hy
              subst hy
              rw [hol] at ho'
              injection ho' with ho'
              subst ho'
              rw [← hi']
              exact hall _ he' hb'
            | more hxm hmy _ ih2 =>
              intro hy
              exact hcl.ahead hxm (ih2 hy)
          exact key m i hm rfl
        rw [this j hA]
        simpa using hji
      · subst hji
        simp [hp0]
      · have hc := clash_rd hl hw
        have hA := hclash hji he hj hc
        have : listed.getD j false = false := by
          cases hb : listed.getD j false with
          | false => rfl
          | true =>
            have := hcl.ahead hA hb
            exact absurd (hp0.symm.trans this) (by simp)
        rw [this]
        simp
        omega
    have heff' := eff_agree heff hread
    have hnext : applyE (sel es (fun j => listed.getD j false) 0 s) e = sel es (fun j => (listed.setIfInBounds i true).getD j false) 0 s := by
      have hfe := hfitE e (List.mem_of_getElem? he)
      obtain ⟨g1, g2⟩ := sel_len es (fun j => listed.getD j false) 0 s
      obtain ⟨g3, g4⟩ := sel_len es (fun j => (listed.setIfInBounds i true).getD j false) 0 s
      obtain ⟨g5, g6⟩ := apply_len (sel es (fun j => listed.getD j false) 0 s) e
      refine St.ext_gets (by rw [g5, g1, g3]) (by rw [g6, g2, g4]) (fun l => ?_)
      rw [gets_apply (fitE_len g1.symm g2.symm hfe), gets_sel _ _ _ _ _ hfitE, gets_sel _ _ _ _ _ hfitE]
      cases hw : wr e l with
      | none =>
        refine lastw_same es _ _ 0 _ (fun j ej hj hwj => ?_)
        simp only [Nat.zero_add]
        rw [getD_put listed i j hls]
        by_cases hji : j = i
        · subst hji
          rw [he] at hj
          injection hj with hj
          subst hj
          exact absurd hw hwj
        · simp [hji]
      | some t =>
        symm
        refine lastw_at es _ 0 i e _ he hw (by rw [Nat.zero_add, getD_put listed i i hls]; simp) (fun m em hm hem hwm => ?_)
        rw [Nat.zero_add, getD_put listed i m hls]
        have hc := clash_wr (x := e) (y := em) (l := l) (by rw [hw]; simp) (Or.inr hwm)
        have hA := hclash hm he hem hc
        have : listed.getD m false = false := by
          cases hb : listed.getD m false with
          | false => rfl
          | true =>
            have := hcl.ahead hA hb
            exact absurd (hp0.symm.trans this) (by simp)
        rw [this]
        simp
        omega
    unfold wpOp
    rw [ho]
    refine eff_sound hX heff' (hob e (List.mem_of_getElem? he)) hg (fun a' w' hg' => ?_)
    refine ih _ a' w' (by simp [hs]) ?_ ?_ (by rw [← hnext]; exact hg')
    · intro j oj hoj hj e' he' hb'
      simp only at hj ⊢
      rw [getD_put listed i _ hls] at hj ⊢
      by_cases hji : j = i
      · subst hji
        rw [hol] at hoj
        injection hoj with hoj
        subst hoj
        rw [hall e' he' hb', Bool.or_true]
      · have hj' : listed.getD j false = true := by simpa [hji] using hj
        have := hcl j oj hoj hj' e' he' hb'
        simp only at this
        rw [this, Bool.or_true]
    · have := cnt_lt (p := fun j => listed.getD j false) (p' := fun j => (listed.setIfInBounds i true).getD j false) (i := i) (fun x hx => by rw [getD_put listed i x hls, hx, Bool.or_true]) hp0 (by rw [getD_put listed i i hls]; simp) (List.range ops.size) (List.mem_range.2 hlt)
      omega
end
/-- What is asked of a region ahead. -/
def regB (ops : List Oper) (s : St) (es : List Eff) (draw : Bool) : Bool := !draw || (backB ops 0 && fitB s es && apartB es (ancs ops []))
theorem rep_false (n j : Nat) : (Array.replicate n false).getD j false = false := by
  rw [Array.getD_eq_getD_getElem?, Array.getElem?_replicate]
  split <;> rfl
theorem γ_drew {Γ : Ctx} {s : St} {a : Act} {w : World} (h : γ Γ s a w) : γ Γ s a w.drew := by
  obtain ⟨h1, k, hI, hT⟩ := h
  have he : Ext k s.B.length w k s.B.length w.drew := ⟨Nat.le_refl _, fun b hb => ⟨hb, rfl⟩, fun _ _ => ⟨Nat.le_refl _, fun _ => rfl⟩⟩
  exact ⟨h1, k, ⟨hI.below.drew, hI.lt, hI.le, hI.qs, hI.rr.below (Below.refl _ _).drew, fun g cs hc => Rep_mono he _ _ (hI.gl g cs hc), fun r x hx => blk_keep (hI.blk r x hx) he rfl rfl (fun _ _ => rfl), hI.sep, hI.inj, ⟨hI.kp.fr, hI.kp.ext.trans he⟩, hI.nf⟩, RepT_mono he _ _ hT⟩
/-- **A region.** -/
theorem region_sound {P : Program} {Γ : Ctx} {rid : Nat} {ops : Array Oper} {draw : Bool} {Q : Exit → Act → World → Prop} {s : St} {es : List Eff} {id : Nat} {cr : List Orc} (hX : EqsOK P Γ.eqT) (hm : P.follows .mixedOrders = true)
    (hrun : runO P Γ ops ops.toList id cr s = some es) (hck : regB ops.toList s es draw = true) (hob : ∀ e ∈ es, ∀ ob, e.ob = some ob → FCalls P Γ ob) {a : Act} {w : World} (hg : γ Γ s a w)
    (hq : ∀ a' w', γ Γ (es.foldl applyE s) a' w' → Q .normal a' w') : (Code.region rid ops draw).wp P Q a w := by
  cases draw with
  | false =>
    refine wp_region ?_
    rw [List.range_eq_range']
    have := run_sound hX (Q := Q) ops.toList 0 id cr s es (fun j => by simp) hrun hob a w hg hq
    simpa using this
  | true =>
    unfold regB at hck
    simp only [Bool.not_true, Bool.false_or, Bool.and_eq_true] at hck
    obtain ⟨⟨h1, h2⟩, h3⟩ := hck
    refine wp_region_any hm ?_
    refine any_sound hX hrun h1 h2 h3 hob hq _ _ _ _ (by simp) (fun j o _ hj => absurd ((rep_false _ _).symm.trans hj) (by simp)) ?_ ?_
    · refine Nat.le_trans List.countP_le_length ?_
      simp
    · rw [sel_none es _ 0 s (fun j => rep_false _ j)]
      exact γ_drew hg
end Go.Pv

namespace Go.Pv
open Go.RowKit (Below)

/-! ### Less is known -/
mutual
def belowB (m : Nat) : PV → Bool
  | .any => true
  | .imm _ => true
  | .agg cs => belowL m cs
  | .tup cs => belowL m cs
  | .ptr r _ _ => decide (r < m)
  | .row r _ => decide (r < m)
  | .eptr r _ _ _ _ => decide (r < m)
  | .iptr _ => true
  | .clo _ cs => belowL m cs
def belowL (m : Nat) : List PV → Bool
  | [] => true
  | c :: cs => belowB m c && belowL m cs
end
theorem belowL_imm (m : Nat) : ∀ cs : List IV, belowL m (cs.map .imm) = true
  | [] => by unfold belowL; rfl
  | c :: cs => by simp only [List.map_cons]; unfold belowL; rw [belowL_imm m cs]; unfold belowB; rfl
theorem Ref.low {k : K} {n m r g : Nat} {p : Value → Prop} (h : Ref k n r g p) (hr : r < m) : Ref k m r g p := ⟨hr, h.2.1, h.2.2⟩
mutual
theorem Rep_low {k : K} {n m : Nat} {w : World} : ∀ (p : PV) (v : Value), belowB m p = true → Rep k n w p v → Rep k m w p v
  | .any, _, _, _ => Rep_any _ _ _ _
  | .imm i, v, _, h => by rw [Rep_imm] at h ⊢; exact h
  | .agg cs, v, hb, h => by
    unfold belowB at hb
    unfold Rep at h ⊢
    obtain ⟨vs, e, hl⟩ := h
    exact ⟨vs, e, RepL_low cs vs hb hl⟩
  | .tup cs, v, hb, h => by
    unfold belowB at hb
    unfold Rep at h ⊢
    obtain ⟨vs, e, hl⟩ := h
    exact ⟨vs, e, RepT_low cs vs hb hl⟩
  | .ptr r g o, v, hb, h => by
    unfold belowB at hb
    unfold Rep at h ⊢
    exact ⟨h.1, h.2.low (by simpa using hb)⟩
  | .row r g, v, hb, h => by
    unfold belowB at hb
    unfold Rep at h ⊢
    exact ⟨h.1, h.2.low (by simpa using hb)⟩
  | .eptr r g sz i o, v, hb, h => by
    unfold belowB at hb
    unfold Rep at h ⊢
    exact ⟨h.1, h.2.low (by simpa using hb)⟩
  | .iptr cs, v, _, h => by unfold Rep at h ⊢; exact h
  | .clo f cs, v, hb, h => by
    unfold belowB at hb
    unfold Rep at h ⊢
    obtain ⟨vs, e, hl⟩ := h
    exact ⟨vs, e, RepT_low cs vs hb hl⟩
theorem RepL_low {k : K} {n m : Nat} {w : World} : ∀ (cs : List PV) (vs : List Value), belowL m cs = true → RepL k n w cs vs → RepL k m w cs vs
  | [], vs, _, h => by unfold RepL at h ⊢; exact h
  | c :: cs, vs, hb, h => by
    unfold belowL at hb
    rw [Bool.and_eq_true] at hb
    unfold RepL at h ⊢
    obtain ⟨v, r, e, h0, h1, h2⟩ := h
    exact ⟨v, r, e, h0, Rep_low c v hb.1 h1, RepL_low cs r hb.2 h2⟩
theorem RepT_low {k : K} {n m : Nat} {w : World} : ∀ (cs : List PV) (vs : List Value), belowL m cs = true → RepT k n w cs vs → RepT k m w cs vs
  | [], vs, _, h => by unfold RepT at h ⊢; exact h
  | c :: cs, vs, hb, h => by
    unfold belowL at hb
    rw [Bool.and_eq_true] at hb
    unfold RepT at h ⊢
    obtain ⟨v, r, e, h1, h2⟩ := h
    exact ⟨v, r, e, Rep_low c v hb.1 h1, RepT_low cs r hb.2 h2⟩
end
/-- Plain values of which the second is known when the first is. -/
def ILe (i j : IV) : Prop := ∀ (Q : Nat → Prop) (w : World) (v : Value), RepI Q w i v → RepI Q w j v
theorem ILe.refl (i : IV) : ILe i i := fun _ _ _ h => h
theorem ILe.nil (sz : Nat) : ILe .nil (.sl sz []) := fun Q w v h => by
  unfold RepI at h ⊢
  exact ⟨none, 0, h, Nat.le_refl _, by simp [maxLen], fun hp => absurd hp (by simp)⟩
theorem ILe.empty (s z : Nat) : ILe (.sl s []) (.sl z []) := fun Q w v h => by
  unfold RepI at h ⊢
  obtain ⟨a, c, e, h1, h2, _⟩ := h
  exact ⟨a, c, e, h1, h2, fun hp => absurd hp (by simp)⟩
/-- A slot forgotten, or kept. -/
inductive Wk (m : Nat) : List PV → List PV → Prop
  | nil : Wk m [] []
  | keep {p : PV} {E E' : List PV} : belowB m p = true → Wk m E E' → Wk m (p :: E) (p :: E')
  | drop {p : PV} {E E' : List PV} : Wk m E E' → Wk m (p :: E) (.any :: E')
  | le {i j : IV} {E E' : List PV} : ILe i j → Wk m E E' → Wk m (.imm i :: E) (.imm j :: E')
theorem Wk.rep {k : K} {n m : Nat} {w : World} {E E' : List PV} (h : Wk m E E') : ∀ {vs : List Value}, RepT k n w E vs → RepT k m w E' vs := by
  induction h with
  | nil => intro vs h; unfold RepT at h ⊢; exact h
  | keep hb _ ih =>
    intro vs h
    unfold RepT at h ⊢
    obtain ⟨v, r, e, h1, h2⟩ := h
    exact ⟨v, r, e, Rep_low _ v hb h1, ih h2⟩
  | drop _ ih =>
    intro vs h
    unfold RepT at h ⊢
    obtain ⟨v, r, e, h1, h2⟩ := h
    exact ⟨v, r, e, Rep_any _ _ _ _, ih h2⟩
  | le hl _ ih =>
    intro vs h
    unfold RepT at h ⊢
    obtain ⟨v, r, e, h1, h2⟩ := h
    exact ⟨v, r, e, Rep_imm.2 (hl _ _ _ (Rep_imm.1 h1)), ih h2⟩
def blkBelow (m : Nat) : Blk → Bool
  | .dead _ => true
  | .box _ cs => belowL m cs
  | .row _ _ _ es => belowL m es
theorem RepE_low {k : K} {n m : Nat} {w : World} {sz : Nat} : ∀ (es : List PV) (xs : List Value), belowL m es = true → RepE k n w sz es xs → RepE k m w sz es xs
  | [], xs, _, h => by unfold RepE at h ⊢; exact h
  | c :: cs, xs, hb, h => by
    unfold belowL at hb
    rw [Bool.and_eq_true] at hb
    unfold RepE at h ⊢
    obtain ⟨v, r, h1, h2, h3, h4, h5⟩ := h
    exact ⟨v, r, h1, h2, h3, Rep_low c v hb.1 h4, RepE_low cs r hb.2 h5⟩
/-- Slots forgotten, the last blocks let go. -/
theorem γ_weak {Γ : Ctx} {E E' : List PV} {B B' : List Blk} {m : Nat} (hB : B.take m = B') (hm : B'.length = m) (hbl : B'.all (blkBelow m) = true) (hE : Wk m E E') {a : Act} {w : World} (h : γ Γ ⟨E, B⟩ a w) (hn0 : Γ.n0 ≤ m := by omega) : γ Γ ⟨E', B'⟩ a w := by
  obtain ⟨hd, k, hI, hT⟩ := h
  subst hB
  have hmB : m ≤ B.length := by rw [List.length_take] at hm; omega
  have hat : ∀ r x, (B.take m)[r]? = some x → B[r]? = some x := fun r x h => by
    rw [List.getElem?_take] at h
    split at h
    · exact h
    · cases h
  refine ⟨hd, k, ⟨hI.below, hI.lt, hI.le, hI.qs, hI.rr, fun g cs hc => ?_, fun r x hx => ?_, fun r x b hx => hI.sep r x b (hat r x hx), fun r r' x x' b hx hx' => hI.inj r r' x x' b (hat r x hx) (hat r' x' hx'), ⟨hI.kp.fr, by rw [hm]; exact ⟨hn0, hI.kp.ext.q, hI.kp.ext.r⟩⟩, fun r x b hx => hI.nf r x b (hat r x hx)⟩, ?_⟩
  · exact Rep_low _ _ (by unfold belowB; rfl) (hI.gl g cs hc)
  · have hb := List.all_eq_true.1 hbl x (List.mem_of_getElem? hx)
    have h := hI.blk r x (hat r x hx)
    rw [hm]
    cases x with
    | dead g => exact h
    | box g cs =>
      obtain ⟨h1, b, c, ty, h2, h3, h4, h5⟩ := h
      exact ⟨h1, b, c, ty, h2, h3, h4, RepL_low cs _ hb h5⟩
    | row e sz g es =>
      obtain ⟨h1, xs, h2, h3⟩ := h
      exact ⟨h1, xs, h2, RepE_low es xs hb h3⟩
  · show RepT k (B.take m).length w E' _
    rw [hm]
    exact hE.rep hT
/-- Blocks to come. -/
theorem γ_more {Γ : Ctx} {E : List PV} {B : List Blk} (n : Nat) {a : Act} {w : World} (h : γ Γ ⟨E, B⟩ a w) : γ Γ ⟨E, B ++ List.replicate n (Blk.dead 0)⟩ a w := by
  obtain ⟨hd, k, hI, hT⟩ := h
  have he : Ext k B.length w ⟨k.ρ, fun r => if r < B.length then k.G r else 0, k.Q⟩ (B ++ List.replicate n (Blk.dead 0)).length w :=
    ⟨by simp, fun b hb => ⟨hb, rfl⟩, fun r hr => by simp [hr]⟩
  have hat : ∀ r x, (B ++ List.replicate n (Blk.dead 0))[r]? = some x → (r < B.length ∧ B[r]? = some x) ∨ (¬ r < B.length ∧ x = .dead 0) := fun r x h => by
    by_cases hr : r < B.length
    · rw [List.getElem?_append_left hr] at h
      exact Or.inl ⟨hr, h⟩
    · rw [List.getElem?_append_right (by omega), List.getElem?_replicate] at h
      split at h
      · exact Or.inr ⟨hr, (Option.some.inj h).symm⟩
      · cases h
  refine ⟨hd, ⟨k.ρ, fun r => if r < B.length then k.G r else 0, k.Q⟩, ⟨hI.below, hI.lt, hI.le, hI.qs, hI.rr, fun g cs hc => Rep_mono he _ _ (hI.gl g cs hc), fun r x hx => ?_, fun r x b hx hb => ?_, fun r r' x x' b hx hx' hb hb' => ?_, ⟨hI.kp.fr, hI.kp.ext.trans he⟩, fun r x b hx hb => ?_⟩, RepT_mono he _ _ hT⟩
  · rcases hat r x hx with ⟨h1, h2⟩ | ⟨h1, h2⟩
    · have h := hI.blk r x h2
      cases x with
      | dead g => exact (if_pos h1).trans h
      | box g cs =>
        obtain ⟨h3, b, c, ty, h4, h5, h6, h7⟩ := h
        exact ⟨(if_pos h1).trans h3, b, c, ty, h4, h5, h6, RepL_mono he _ _ h7⟩
      | row e sz g es =>
        obtain ⟨h3, xs, h4, h5⟩ := h
        exact ⟨(if_pos h1).trans h3, xs, h4, RepE_mono he _ _ h5⟩
    · rw [h2]
      exact if_neg h1
  · rcases hat r x hx with ⟨h1, h2⟩ | ⟨h1, h2⟩
    · exact hI.sep r x b h2 (by cases x <;> exact hb)
    · subst h2; cases hb
  · rcases hat r x hx with ⟨h1, h2⟩ | ⟨h1, h2⟩
    · rcases hat r' x' hx' with ⟨h3, h4⟩ | ⟨h3, h4⟩
      · exact hI.inj r r' x x' b h2 h4 (by cases x <;> exact hb) (by cases x' <;> exact hb')
      · subst h4; cases hb'
    · subst h2; cases hb
  · rcases hat r x hx with ⟨h1, h2⟩ | ⟨h1, h2⟩
    · exact hI.nf r x b h2 (by cases x <;> exact hb)
    · subst h2; cases hb

/-! ### Code -/
def AWp (P : Program) (Γ : Ctx) (c : Code) (s : St) (Q : Exit → St → Prop) : Prop := EqsOK P Γ.eqT → ∀ a w, γ Γ s a w → c.wp P (fun e a w => ∃ s', Q e s' ∧ γ Γ s' a w) a w
def thenS (K : St → Prop) (Q : Exit → St → Prop) : Exit → St → Prop
  | .normal, s => K s
  | e, s => Q e s
def blockS (id : Nat) (Q : Exit → St → Prop) : Exit → St → Prop
  | .exit id', s => if id' = id then Q .normal s else Q (.exit id') s
  | e, s => Q e s
section
variable {P : Program} {Γ : Ctx} {s : St} {Q : Exit → St → Prop}
theorem awp_skip (h : Q .normal s) : AWp P Γ .skip s Q := fun _ _ _ hg => wp_skip ⟨s, h, hg⟩
theorem awp_label {l : Nat} (h : Q .normal s) : AWp P Γ (.label l) s Q := fun _ _ _ hg => wp_label ⟨s, h, hg⟩
theorem awp_exit {id : Nat} (h : Q (.exit id) s) : AWp P Γ (.exit id) s Q := fun _ _ _ hg => wp_exit ⟨s, h, hg⟩
theorem awp_ret (h : Q .ret s) : AWp P Γ .ret s Q := fun _ _ _ hg => wp_ret ⟨s, h, hg⟩
theorem awp_seq {x y : Code} (h : ∀ K : St → Prop, (∀ s, AWp P Γ y s Q → K s) → AWp P Γ x s (thenS K Q)) : AWp P Γ (.seq x y) s Q := fun hX a w hg => by
  have h1 := h (fun s => AWp P Γ y s Q) (fun _ h => h) hX a w hg
  refine wp_seq (wp_mono h1 ?_)
  rintro e a' w' ⟨s', h2, h3⟩
  cases e with
  | normal => exact h2 hX a' w' h3
  | _ => exact ⟨s', h2, h3⟩
theorem awp_cond {c : Operand} {x y : Code} {b : Bool} (hc : pev Γ s.E c = .imm (.bool b)) (ht : b = true → AWp P Γ x s Q) (hf : b = false → AWp P Γ y s Q) : AWp P Γ (.cond c x y) s Q := fun hX a w hg => by
  obtain ⟨hd, k, hI, hT⟩ := id hg
  have e := eval_rep hI hT c
  rw [hc] at e
  have ev := imm_bool e
  exact wp_cond_split ev (fun h => ht h hX a w hg) (fun h => hf h hX a w hg)
theorem awp_block {id : Nat} {c : Code} (h : AWp P Γ c s (blockS id Q)) : AWp P Γ (.block id c) s Q := fun hX a w hg => by
  refine wp_block (wp_mono (h hX a w hg) ?_)
  rintro e a' w' ⟨s', h2, h3⟩
  cases e with
  | exit id' =>
    unfold blockS at h2
    unfold Exit.inBlock
    simp only at h2 ⊢
    split at h2
    · rename_i he; rw [if_pos he]; exact ⟨s', h2, h3⟩
    · rename_i he; rw [if_neg he]; exact ⟨s', h2, h3⟩
  | _ => exact ⟨s', h2, h3⟩
theorem awp_weak {c : Code} {E E' : List PV} {B B' : List Blk} {m : Nat} (hB : B.take m = B') (hm : B'.length = m) (hbl : B'.all (blkBelow m) = true) (hE : Wk m E E') (h : AWp P Γ c ⟨E', B'⟩ Q) (hn0 : Γ.n0 ≤ m := by omega) : AWp P Γ c ⟨E, B⟩ Q := fun hX a w hg => h hX a w (γ_weak hB hm hbl hE hg hn0)
/-- A region: 'n' blocks may be made. -/
theorem awp_region {rid : Nat} {ops : Array Oper} {draw : Bool} {E : List PV} {B : List Blk} (n : Nat) (cr : List Orc) {es : List Eff} (hm : P.follows .mixedOrders = true) (hrun : runO P Γ ops ops.toList B.length cr ⟨E, B ++ List.replicate n (Blk.dead 0)⟩ = some es)
    (hck : regB ops.toList ⟨E, B ++ List.replicate n (Blk.dead 0)⟩ es draw = true) (hob : ∀ e ∈ es, ∀ ob, e.ob = some ob → FCalls P Γ ob) (h : Q .normal (es.foldl applyE ⟨E, B ++ List.replicate n (Blk.dead 0)⟩)) : AWp P Γ (.region rid ops draw) ⟨E, B⟩ Q := fun hX _ _ hg =>
  region_sound hX hm hrun hck hob (γ_more n hg) fun _ _ hg' => ⟨_, h, hg'⟩
/-- A loop: the states at its head are told by an index with a measure. -/
theorem awp_loop {c : Code} {ι : Type} (st : ι → St) (μ : ι → Nat) (i0 : ι) (h0 : ∀ a w, γ Γ s a w → γ Γ (st i0) a w)
    (round : ∀ i, AWp P Γ c (st i) fun e s' => match e with
      | .normal => ∃ i', μ i' < μ i ∧ ∀ a w, γ Γ s' a w → γ Γ (st i') a w
      | e => Q e s') : AWp P Γ (.loop c) s Q := fun hX a w hg => by
  have key : ∀ n i a w, μ i = n → γ Γ (st i) a w → ∀ (b : Frame) (k : List Item) (cs : List Frame),
      ∃ e a' w', (∃ s', Q e s' ∧ γ Γ s' a' w') ∧ Arrives P (lone (b.at a (.code c :: .inLoop c :: k)) cs w) b k cs e a' w' := by
    intro n
    induction n using Nat.strongRecOn with
    | _ n ih =>
      intro i a w hn hI b k cs
      obtain ⟨e, a₁, w₁, ⟨s', hq, hg'⟩, harr⟩ := round i hX a w hI b (.inLoop c :: k) cs
      cases e with
      | normal =>
        obtain ⟨i', hlt, hI₁⟩ := hq
        obtain ⟨e₂, a₂, w₂, hq₂, harr₂⟩ := ih (μ i') (hn ▸ hlt) i' a₁ w₁ rfl (hI₁ _ _ hg') b k cs
        exact ⟨e₂, a₂, w₂, hq₂, .of_steps (Steps.trans harr (.one step_inLoop)) harr₂⟩
      | exit id => exact ⟨_, a₁, w₁, ⟨s', hq, hg'⟩, .pass (x := .inLoop c) rfl (fun _ _ => .inl (by simp)) harr⟩
      | goto l => exact ⟨_, a₁, w₁, ⟨s', hq, hg'⟩, .pass (x := .inLoop c) rfl (fun _ _ => .inl (by simp)) harr⟩
      | ret => exact ⟨_, a₁, w₁, ⟨s', hq, hg'⟩, .pass (x := .inLoop c) rfl (fun _ _ => .inl (by simp)) harr⟩
      | panic ch => exact ⟨_, a₁, w₁, ⟨s', hq, hg'⟩, .pass (x := .inLoop c) rfl (fun _ _ => .inl (by simp)) harr⟩
      | outgrown => exact ⟨_, a₁, w₁, ⟨s', hq, hg'⟩, .pass (x := .inLoop c) rfl (fun _ _ => .inl (by simp)) harr⟩
  intro b k cs
  obtain ⟨e, a', w', hq, harr⟩ := key _ i0 a w rfl (h0 a w hg) b k cs
  exact ⟨e, a', w', hq, .of_steps (.one step_loop) harr⟩
end
end Go.Pv

namespace Go.Pv
open Go.RowKit (Below)

mutual
/-- A value that nobody will write any more. -/
def frz (B : List Blk) : Nat → PV → Option IV
  | 0, _ => none
  | _ + 1, .imm i => some i
  | n + 1, .agg cs => match frzL B n cs with
    | some is => some (.agg is)
    | none => none
  | n + 1, .row r g => match B[r]? with
    | some (.row _ sz g' es) => if g = g' then (match frzL B n es with
      | some is => some (.sl sz is)
      | none => none) else none
    | _ => none
  | _ + 1, _ => none
def frzL (B : List Blk) : Nat → List PV → Option (List IV)
  | 0, _ => none
  | _ + 1, [] => some []
  | n + 1, c :: cs => match frz B n c, frzL B (n + 1) cs with
    | some i, some is => some (i :: is)
    | _, _ => none
end
theorem frzL_imm (B : List Blk) (n : Nat) : ∀ cs : List IV, frzL B (n + 2) (cs.map .imm) = some cs
  | [] => by simp [frzL]
  | c :: cs => by
    have := frzL_imm B n cs
    simp only [List.map_cons]
    unfold frzL
    rw [this]
    simp [frz]
def valR (P : Program) (s : St) : ResultVar → Option IV
  | .tmp t => frz s.B 9 (s.E.getD t .any)
  | .cell t ty => match tdOf P ty, s.E.getD t .any with
    | some d, .ptr r g off => match s.B[r]? with
      | some (.box g' cs) => if g = g' then (partP cs off d.size d.agg).bind (frz s.B 9) else none
      | _ => none
    | _, _ => none
def valsR (P : Program) (s : St) : List ResultVar → Option (List IV)
  | [] => some []
  | r :: rs => match valR P s r, valsR P s rs with
    | some i, some is => some (i :: is)
    | _, _ => none
def RepIs (Q : Nat → Prop) (w : World) : List IV → List Value → Prop
  | [], vs => vs = []
  | c :: cs, vs => ∃ v r, vs = v :: r ∧ RepI Q w c v ∧ RepIs Q w cs r
def RepRes (Q : Nat → Prop) (w : World) (is : List IV) (v : Value) : Prop :=
  match is with
  | [i] => RepI Q w i v
  | is => ∃ vs : List Value, v = .tuple vs.toArray ∧ RepIs Q w is vs
def resP : List IV → PV
  | [i] => .imm i
  | is => .tup (is.map .imm)
def ILes : List IV → List IV → Prop
  | [], js => js = []
  | i :: is, js => ∃ j r, js = j :: r ∧ ILe i j ∧ ILes is r
theorem ILes.rep {Q : Nat → Prop} {w : World} : ∀ {is js : List IV} {vs : List Value}, ILes is js → RepIs Q w is vs → RepIs Q w js vs
  | [], js, vs, h, hr => by unfold ILes at h; subst h; exact hr
  | i :: is, js, vs, h, hr => by
    unfold ILes at h
    obtain ⟨j, r, e, h1, h2⟩ := h
    subst e
    unfold RepIs at hr ⊢
    obtain ⟨v, r', e, h3, h4⟩ := hr
    exact ⟨v, r', e, h1 _ _ _ h3, h2.rep h4⟩
theorem ILes.len : ∀ {is js : List IV}, ILes is js → is.length = js.length
  | [], js, h => by unfold ILes at h; subst h; rfl
  | i :: is, js, h => by
    unfold ILes at h
    obtain ⟨j, r, e, _, h2⟩ := h
    subst e
    rw [List.length_cons, List.length_cons, h2.len]
theorem ILes.res {Q : Nat → Prop} {w : World} {is js : List IV} {v : Value} (h : ILes is js) (hr : RepRes Q w is v) : RepRes Q w js v := by
  match is, js, h, h.len with
  | [], [], _, _ => exact hr
  | [i], [j], h, _ =>
    unfold ILes at h
    obtain ⟨j', r, e, h1, _⟩ := h
    injection e with e1 e2
    subst e1
    exact h1 _ _ _ hr
  | i :: i2 :: is, j :: j2 :: js, h, _ =>
    obtain ⟨vs, e, h1⟩ := hr
    exact ⟨vs, e, h.rep h1⟩
theorem res_rep {k : K} {n : Nat} {w : World} {is : List IV} {v : Value} (h : RepRes k.Q w is v) : Rep k n w (resP is) v := by
  have key : ∀ (is : List IV) (vs : List Value), RepIs k.Q w is vs → RepT k n w (is.map .imm) vs := by
    intro is
    induction is with
    | nil => intro vs h; unfold RepIs at h; subst h; simp [RepT]
    | cons i is ih =>
      intro vs h
      unfold RepIs at h
      obtain ⟨v, r, e, h1, h2⟩ := h
      simp only [List.map_cons]
      unfold RepT
      exact ⟨v, r, e, Rep_imm.2 h1, ih r h2⟩
  match is, h with
  | [], h =>
    obtain ⟨vs, e, h⟩ := h
    unfold resP Rep
    exact ⟨vs, e, key _ _ h⟩
  | [i], h => exact Rep_imm.2 h
  | i :: j :: is, h =>
    obtain ⟨vs, e, h⟩ := h
    unfold resP Rep
    exact ⟨vs, e, key _ _ h⟩
/-- The memory of plain values, with the call's own blocks. -/
def frozen (Γ : Ctx) (k : K) (w : World) (b : Nat) : Prop := k.Q b ∨ (Γ.N ≤ b ∧ b < w.heap.size)
set_option linter.unusedSectionVars false
section
variable {Γ : Ctx} {k : K} {B : List Blk} {w : World} (hI : Inv Γ k B w)
include hI
mutual
theorem frz_rep : ∀ (n : Nat) (p : PV) (i : IV) (v : Value), frz B n p = some i → Rep k B.length w p v → RepI (frozen Γ k w) w i v
  | 0, p, i, v, h, _ => by unfold frz at h; cases h
  | n + 1, .imm j, i, v, h, hr => by
    unfold frz at h
    simp only [Option.some.injEq] at h
    subst h
    exact RepI_mono (fun b hb => ⟨Or.inl hb, rfl⟩) _ _ (Rep_imm.1 hr)
  | n + 1, .agg cs, i, v, h, hr => by
    unfold frz at h
    split at h
    · rename_i is his
      simp only [Option.some.injEq] at h
      subst h
      obtain ⟨vs, e, hl⟩ := Rep_agg.1 hr
      exact RepI_agg.2 ⟨vs, e, frzL_rep n cs is vs his hl⟩
    · cases h
  | n + 1, .row r g, i, v, h, hr => by
    unfold frz at h
    split at h
    · rename_i el sz g' es hb
      split at h
      · rename_i hg
        subst hg
        split at h
        · rename_i is his
          simp only [Option.some.injEq] at h
          subst h
          unfold Rep at hr
          obtain ⟨_, _, _, h3⟩ := hr
          obtain ⟨g1, xs, g2, g3⟩ := hI.blk r _ hb
          have hv := h3 g1.symm
          have hlen := frzE_len n es is his
          unfold RepI
          have hform := g2.2
          rw [← hv] at hform g2
          rcases hform with ⟨e1, e2⟩ | ⟨bb, cap, cur, e1, e2, e3, e4, e5, _⟩
          · refine ⟨none, 0, by rw [hlen, e2]; exact e1, by omega, by simp [maxLen], fun hp => by omega⟩
          · refine ⟨some ⟨bb, 0, none⟩, cap, by rw [hlen]; exact e1, by omega, e5, fun _ => ⟨bb, 0, rfl, ?_, ?_⟩⟩
            · exact Or.inr ⟨e2, (Array.getElem?_eq_some_iff.1 e3).1⟩
            · refine frzE_rep n es is xs his g3 bb 0 (fun j u hu => ?_)
              have := g2.cells (g := bb) (by rw [e1]; rfl) j u hu
              rw [Nat.zero_add]
              have hadd : (⟨bb, 0, none⟩ : Addr).add j = ⟨bb, j, none⟩ := by unfold Addr.add; split <;> simp_all
              rw [hadd] at this
              exact this
        · cases h
      · cases h
    · cases h
  | n + 1, .any, i, v, h, _ => by unfold frz at h; cases h
  | n + 1, .tup _, i, v, h, _ => by unfold frz at h; cases h
  | n + 1, .ptr _ _ _, i, v, h, _ => by unfold frz at h; cases h
  | n + 1, .eptr _ _ _ _ _, i, v, h, _ => by unfold frz at h; cases h
  | n + 1, .iptr _, i, v, h, _ => by unfold frz at h; cases h
  | n + 1, .clo _ _, i, v, h, _ => by unfold frz at h; cases h
theorem frzL_rep : ∀ (n : Nat) (cs : List PV) (is : List IV) (vs : List Value), frzL B n cs = some is → RepL k B.length w cs vs → RepC (frozen Γ k w) w is vs
  | 0, _, _, _, h, _ => by unfold frzL at h; cases h
  | n + 1, [], is, vs, h, hr => by
    unfold frzL at h
    simp only [Option.some.injEq] at h
    subst h
    unfold RepL at hr
    unfold RepC
    exact hr
  | n + 1, c :: cs, is, vs, h, hr => by
    unfold frzL at h
    split at h
    · rename_i j js hj hjs
      simp only [Option.some.injEq] at h
      subst h
      unfold RepL at hr
      obtain ⟨v, r, e, h0, h1, h2⟩ := hr
      unfold RepC
      exact ⟨v, r, e, h0, frz_rep n c j v hj h1, frzL_rep (n + 1) cs js r hjs h2⟩
    · cases h
theorem frzE_len : ∀ (n : Nat) (cs : List PV) (is : List IV), frzL B n cs = some is → is.length = cs.length
  | 0, _, _, h => by unfold frzL at h; cases h
  | n + 1, [], is, h => by
    unfold frzL at h
    simp only [Option.some.injEq] at h
    subst h
    rfl
  | n + 1, c :: cs, is, h => by
    unfold frzL at h
    split at h
    · rename_i j js hj hjs
      simp only [Option.some.injEq] at h
      subst h
      rw [List.length_cons, List.length_cons, frzE_len (n + 1) cs js hjs]
    · cases h
theorem frzE_rep : ∀ {sz : Nat} (n : Nat) (cs : List PV) (is : List IV) (xs : List Value), frzL B n cs = some is → RepE k B.length w sz cs xs → ∀ (b off : Nat), (∀ j u, xs[j]? = some u → w.cell? ⟨b, off + j, none⟩ = some u) → RepR (frozen Γ k w) w sz b off is
  | _, 0, _, _, _, h, _, _, _, _ => by unfold frzL at h; cases h
  | sz, n + 1, [], is, xs, h, hr, b, off, _ => by
    unfold frzL at h
    simp only [Option.some.injEq] at h
    subst h
    unfold RepR
    trivial
  | sz, n + 1, c :: cs, is, xs, h, hr, b, off, hc => by
    unfold frzL at h
    split at h
    · rename_i j js hj hjs
      simp only [Option.some.injEq] at h
      subst h
      unfold RepE at hr
      obtain ⟨v, r, e, h1, h2, h3, h4⟩ := hr
      subst e
      have hsz : v.cells.toList.length = sz := by rw [Array.length_toList]; exact h1
      unfold RepR
      refine ⟨⟨v, frz_rep n c j v hj h3, h1, fun q u hq => hc q u ?_⟩, frzE_rep (n + 1) cs js r hjs h4 b (off + sz) (fun q u hq => ?_)⟩
      · rw [List.getElem?_append_left (by have := (Array.getElem?_eq_some_iff.1 hq).1; omega)]
        simpa using hq
      · rw [Nat.add_assoc]
        refine hc _ u ?_
        rw [List.getElem?_append_right (by omega), hsz]
        simpa using hq
    · cases h
end
end
def resF (tmps : Array Value) : ResultVar → Sem Value
  | .tmp t => pure (tmps.getD t undef)
  | .cell a t => do loadVar t (← asAddr (tmps.getD a undef))
theorem results_eq (fn : Func) (tmps : Array Value) : results fn tmps = ((fn.results.mapM (resF tmps)) >>= fun vs => pure (if h : vs.size = 1 then vs[0] else .tuple vs)) := rfl
theorem RepIs_mono {Q Q' : Nat → Prop} {w w' : World} (h : ∀ b, Q b → Q' b ∧ w'.heap[b]? = w.heap[b]?) : ∀ {is : List IV} {vs : List Value}, RepIs Q w is vs → RepIs Q' w' is vs
  | [], vs, hr => by unfold RepIs at hr ⊢; exact hr
  | i :: is, vs, hr => by
    unfold RepIs at hr ⊢
    obtain ⟨v, r, e, h1, h2⟩ := hr
    exact ⟨v, r, e, RepI_mono h _ _ h1, RepIs_mono h h2⟩
theorem RepRes_mono {Q Q' : Nat → Prop} {w w' : World} (h : ∀ b, Q b → Q' b ∧ w'.heap[b]? = w.heap[b]?) {is : List IV} {v : Value} (hr : RepRes Q w is v) : RepRes Q' w' is v := by
  match is, hr with
  | [], ⟨vs, e, hr⟩ => exact ⟨vs, e, RepIs_mono h hr⟩
  | [i], hr => exact RepI_mono h _ _ hr
  | i :: j :: is, ⟨vs, e, hr⟩ => exact ⟨vs, e, RepIs_mono h hr⟩
theorem results_run {P : Program} {Γ : Ctx} {k : K} {s : St} {w : World} {a : Act} (hI : Inv Γ k s.B w) (hT : RepT k s.B.length w s.E a.tmps.toList) {fn : Func} {is : List IV} (h : valsR P s fn.results.toList = some is) :
    ∃ v, (results fn a.tmps).run P w = .ok v w ∧ RepRes (frozen Γ k w) w is v := by
  have one1 : ∀ (r : ResultVar) (i : IV), valR P s r = some i → ∃ v, (resF a.tmps r).run P w = .ok v w ∧ RepI (frozen Γ k w) w i v := by
    intro r i hv
    cases r with
    | tmp t =>
      exact ⟨_, rfl, frz_rep hI 9 _ i _ hv (eval_rep hI hT (.tmp t))⟩
    | cell t ty =>
      unfold valR at hv
      simp only at hv
      split at hv
      · rename_i d r g off hd hx
        split at hv
        · rename_i g' cs hb
          split at hv
          · rename_i hg
            subst hg
            have e := eval_rep hI hT (.tmp t)
            have e2 : pev Γ s.E (.tmp t) = .ptr r g off := hx
            rw [e2] at e
            obtain ⟨b, c, cty, ev, _, _, _, hh, hL⟩ := ref_box hI e hb
            cases hp : partP cs off d.size d.agg with
            | none => rw [hp] at hv; cases hv
            | some p =>
              rw [hp] at hv
              simp only [Option.bind_some] at hv
              obtain ⟨v, hrun, hrep⟩ := run_loadAt (P := P) (w := w) hd (b := b) hL (fun j u hj => by rw [World.cell?, hh]; simpa using hj) hp
              refine ⟨v, ?_, frz_rep hI 9 p i v hv hrep⟩
              have ev' : a.tmps.getD t undef = .pointer (some ⟨b, off, none⟩) := ev
              simp only [Instr.loadAt, Instr.sureAddr, Sem.run_bind, Sem.run_pure, Result.andThen_ok] at hrun
              unfold resF
              simp only [ev', asAddr, Sem.run_bind, Sem.run_pure, Result.andThen_ok]
              exact hrun
          · cases hv
        · cases hv
      · cases hv
  have many : ∀ (rs : List ResultVar) (is : List IV), valsR P s rs = some is → ∃ vs, (rs.mapM (resF a.tmps)).run P w = .ok vs w ∧ RepIs (frozen Γ k w) w is vs := by
    intro rs
    induction rs with
    | nil =>
      intro is h
      simp only [valsR, Option.some.injEq] at h
      subst h
      exact ⟨[], rfl, rfl⟩
    | cons r rs ih =>
      intro is h
      unfold valsR at h
      split at h
      · rename_i i js hi hjs
        simp only [Option.some.injEq] at h
        subst h
        obtain ⟨v, h1, h2⟩ := one1 r i hi
        obtain ⟨vs, h3, h4⟩ := ih js hjs
        refine ⟨v :: vs, ?_, v, vs, rfl, h2, h4⟩
        rw [List.mapM_cons, Sem.run_bind]
        rw [h1]
        rw [Result.andThen_ok, Sem.run_bind, h3]
        rfl
      · cases h
  obtain ⟨vs, h1, h2⟩ := many _ _ h
  have hlen : ∀ {is : List IV} {vs : List Value}, RepIs (frozen Γ k w) w is vs → is.length = vs.length := by
    intro is
    induction is with
    | nil => intro vs h; unfold RepIs at h; subst h; rfl
    | cons i is ih =>
      intro vs h
      unfold RepIs at h
      obtain ⟨v, r, e, _, h⟩ := h
      subst e
      rw [List.length_cons, List.length_cons, ih h]
  have hl := hlen h2
  have hres : (results fn a.tmps).run P w = .ok (if hh : vs.toArray.size = 1 then vs.toArray[0] else .tuple vs.toArray) w := by
    rw [results_eq, Sem.run_bind, show fn.results = fn.results.toList.toArray by simp, List.mapM_toArray, Sem.run_map]
    rw [h1]
    rfl
  refine ⟨_, hres, ?_⟩
  match is, vs, h2, hl with
  | [], [], h2, _ => exact ⟨[], rfl, h2⟩
  | [i], [v], h2, _ =>
    unfold RepIs at h2
    obtain ⟨v', r, e, h3, _⟩ := h2
    injection e with e1 _
    subst e1
    exact h3
  | i :: j :: is, v :: u :: vs, h2, _ => exact ⟨v :: u :: vs, by simp, h2⟩

/-! ### A call of plain values alone -/
def GlOK (Q : Nat → Prop) (w : World) (gl : Nat → Option (List IV)) : Prop := ∀ g cs, gl g = some cs → Rep ⟨fun _ => undef, fun _ => 0, Q⟩ 0 w (.iptr cs) (.pointer (some ⟨g, 0, none⟩))
/-- What a call of plain values hands back: plain values; what was there stays. -/
def PC (P : Program) (X : Env) (f : FuncId) (args res : List IV) : Prop :=
  (∀ as w, (callFunc f as).run P w = .ok (.enter f as) w) ∧
  ∀ (Q : Nat → Prop) (w : World) (vs : List Value), (∀ b, Q b → b < w.heap.size) → GlOK Q w X.gl → X.R w → RepIs Q w args vs →
    Calls P f vs.toArray w fun e w' => ∃ v Q', e = .returned v ∧ Below w.heap.size w w' ∧ (∀ b, Q b → Q' b) ∧ (∀ b, Q' b → (Q b ∨ w.heap.size ≤ b) ∧ b < w'.heap.size) ∧ RepRes Q' w' res v
theorem iptr_any {k k' : K} {n n' : Nat} {w : World} {cs : List IV} {v : Value} (hq : k'.Q = k.Q) (h : Rep k n w (.iptr cs) v) : Rep k' n' w (.iptr cs) v := by
  unfold Rep at h ⊢
  rw [hq]
  exact h
theorem reps_imms {k : K} {n : Nat} {w : World} : ∀ {is : List IV} {vs : List Value}, RepT k n w (is.map .imm) vs → RepIs k.Q w is vs
  | [], vs, h => by unfold RepIs; simpa [RepT] using h
  | i :: is, vs, h => by
    simp only [List.map_cons] at h
    unfold RepT at h
    obtain ⟨v, r, e, h1, h2⟩ := h
    unfold RepIs
    exact ⟨v, r, e, Rep_imm.1 h1, reps_imms h2⟩
theorem imms_reps {k : K} {n : Nat} {w : World} : ∀ {is : List IV} {vs : List Value}, RepIs k.Q w is vs → RepT k n w (is.map .imm) vs
  | [], vs, h => by unfold RepIs at h; simpa [RepT] using h
  | i :: is, vs, h => by
    unfold RepIs at h
    obtain ⟨v, r, e, h1, h2⟩ := h
    simp only [List.map_cons]
    unfold RepT
    exact ⟨v, r, e, Rep_imm.2 h1, imms_reps h2⟩
/-- A call of plain values, in the middle of another call. -/
theorem PC.fcalls {P : Program} {Γ : Ctx} {f : FuncId} {args res : List IV} {rs : List (Nat × Blk)} (h : PC P Γ.X f args res) : FCalls P Γ ⟨f, args.map .imm, rs, resP res, []⟩ := by
  refine ⟨h.1, fun k B w vs hI _ hT => ?_⟩
  refine (h.2 k.Q w vs hI.lt (fun g cs hc => iptr_any (k := k) (n := B.length) rfl (hI.gl g cs hc)) (by obtain ⟨w1, h1, h2, h3⟩ := hI.rr; exact Γ.X.st w1 w h1 h3) (reps_imms hT)).mono ?_
  rintro e w' ⟨v, Q', rfl, hb, hq, hq', hr⟩
  have he : Ext k B.length w ⟨k.ρ, k.G, Q'⟩ B.length w' := ⟨Nat.le_refl _, fun b hb' => ⟨hq b hb', hb.block b (hI.lt b hb')⟩, fun _ _ => ⟨Nat.le_refl _, fun _ => rfl⟩⟩
  refine ⟨v, ⟨k.ρ, k.G, Q'⟩, rfl, he, ⟨hI.below.trans (hb.mono hI.le), fun b hb' => (hq' b hb').2, Nat.le_trans hI.le hb.size, fun b hb' => (hq' b hb').1.elim (fun h4 => hI.qs b h4) (fun h4 => Or.inr (Nat.le_trans hI.le h4)), hI.rr.below (hb.mono hI.le), fun g cs hc => Rep_mono he _ _ (hI.gl g cs hc), fun r x hx => ?_, fun r x b hx hb' => ?_, fun r r' x x' b hx hx' h1 h2 => hI.inj r r' x x' b hx hx' (by cases x <;> exact h1) (by cases x' <;> exact h2), ⟨fun b hb' => ?_, hI.kp.ext.trans he⟩, fun r x b hx hb' => hI.nf r x b hx (by cases x <;> exact hb')⟩, res_rep hr⟩
  · exact blk_keep (hI.blk r x hx) he rfl rfl (fun b hb' => hb.block b (hI.sep r x b hx hb').2.2)
  · have hb'' : own k r x = some b := by cases x <;> exact hb'
    obtain ⟨h1, h2, h3⟩ := hI.sep r x b hx hb''
    exact ⟨fun hc => (hq' b hc).1.elim (fun h4 => h1 h4) (fun h4 => absurd h3 (by omega)), h2, Nat.lt_of_lt_of_le h3 hb.size⟩
  · obtain ⟨g1, g2, g3⟩ := hI.kp.fr b hb'
    exact ⟨Nat.lt_of_lt_of_le g1 hb.size, (hb.block b g1).trans g2, fun hc => (hq' b hc).1.elim (fun h4 => g3 h4) (fun h4 => absurd g1 (by omega))⟩
theorem enters_of {P : Program} {f : FuncId} {fn : Func} {c : Code} (hf : P.funcs[f]? = some fn) (hb : fn.body = some c) (hn : (fn.name == "runtime.NumGoroutine") = false) : ∀ as w, (callFunc f as).run P w = .ok (.enter f as) w := by
  intro as w
  unfold callFunc
  rw [Sem.run_bind, run_program, Result.andThen_ok, hf]
  simp [hn, hb]
/-- The end of a body. -/
def retP (P : Program) (fn : Func) (res : List IV) : Exit → St → Prop
  | .normal, s | .ret, s => ∃ is, valsR P s fn.results.toList = some is ∧ ILes is res
  | _, _ => False
/-- A body that was gone through. -/
theorem PC.of_body {P : Program} {X : Env} {eqT : TypeId → Option (List CK)} (hX : EqsOK P eqT) {f : FuncId} {fn : Func} {c : Code} {args res : List IV} (hf : P.funcs[f]? = some fn) (hb : fn.body = some c) (hn : (fn.name == "runtime.NumGoroutine") = false)
    (h : ∀ Γ : Ctx, Γ.X = X → Γ.eqT = eqT ∧ Γ.n0 = 0 → AWp P Γ c ⟨args.map .imm ++ List.replicate (fn.ntmps - args.length) .any, []⟩ (retP P fn res)) : PC P X f args res := by
  refine ⟨enters_of hf hb hn, fun Q w vs hQ hgl hR hvs => ?_⟩
  let k : K := ⟨fun _ => undef, fun _ => 0, Q⟩
  let Γ : Ctx := ⟨w.heap.size, w, X, Q, eqT, fun _ => False, w, k, 0⟩
  have hI : Inv Γ k [] w := ⟨Below.refl _ _, hQ, Nat.le_refl _, fun b hb => Or.inl hb, ⟨w, hR, Nat.le_refl _, Below.refl _ _⟩, fun g cs hc => iptr_any (k := ⟨fun _ => undef, fun _ => 0, Q⟩) (n := 0) rfl (hgl g cs hc), fun r x hx => by simp at hx, fun r x b hx => by simp at hx, fun r r' x x' b hx => by simp at hx, ⟨fun b hb => hb.elim, Ext.refl _ _ _⟩, fun r x b hx => by simp at hx⟩
  have hlen : args.length = vs.length := by
    have h1 : RepT k 0 w (args.map .imm) vs := imms_reps hvs
    have := RepT_len h1
    simpa using this
  have hany : ∀ n, RepT k 0 w (List.replicate n .any) (List.replicate n undef) := by
    intro n
    induction n with
    | zero => simp [RepT]
    | succ n ih => simp only [List.replicate_succ]; unfold RepT; exact ⟨undef, _, rfl, Rep_any _ _ _ _, ih⟩
  refine calls_of_wp hf hb (wp_mono (h Γ rfl ⟨rfl, rfl⟩ hX _ w ⟨rfl, k, hI, ?_⟩) ?_)
  · have h1 : RepT k 0 w (args.map .imm) vs := imms_reps hvs
    have h2 := RepT_app h1 (hany (fn.ntmps - args.length))
    have e : (vs.toArray ++ Array.replicate (fn.ntmps - vs.toArray.size) undef).toList = vs ++ List.replicate (fn.ntmps - args.length) undef := by
      simp [hlen]
    rw [e]
    exact h2
  · rintro e a' w' ⟨s', h1, hd, k', hI', hT'⟩
    have fin : (∃ is, valsR P s' fn.results.toList = some is ∧ ILes is res) → a'.defers = [] ∧ ∃ v, (results fn a'.tmps).run P w' = .ok v w' ∧ ∃ u Q', Ending.returned v = .returned u ∧ Below w.heap.size w w' ∧ (∀ b, Q b → Q' b) ∧ (∀ b, Q' b → (Q b ∨ w.heap.size ≤ b) ∧ b < w'.heap.size) ∧ RepRes Q' w' res u := by
      rintro ⟨is, h2, h3⟩
      obtain ⟨v, h4, h5⟩ := results_run hI' hT' h2
      refine ⟨hd, v, h4, v, fun b => Q b ∨ (w.heap.size ≤ b ∧ b < w'.heap.size), rfl, hI'.below, fun b hb => Or.inl hb, fun b hb => ?_, ?_⟩
      · rcases hb with hb | ⟨h6, h7⟩
        · exact ⟨Or.inl hb, Nat.lt_of_lt_of_le (hQ b hb) hI'.below.size⟩
        · exact ⟨Or.inr h6, h7⟩
      · refine ILes.res h3 (RepRes_mono (fun b hb => ⟨?_, rfl⟩) h5)
        rcases hb with hb | hb
        · rcases hI'.qs b hb with hc | hc
          · exact Or.inl hc
          · exact Or.inr ⟨hc, hI'.lt b hb⟩
        · exact Or.inr hb
    cases e with
    | normal => exact fin h1
    | ret => exact fin h1
    | exit _ => exact h1.elim
    | goto _ => exact h1.elim
    | panic _ => exact h1.elim
    | outgrown => exact h1.elim
/-! ### A region as one computation -/
/-- What the check of an order looks at. -/
structure Sh where
  dst : Option Nat
  keys : List Nat
  tr : List Nat
  br : List Nat
def shOf (e : Eff) : Sh := ⟨e.dst, e.ws.map (·.1), e.tr, e.br⟩
def clashS (x y : Sh) : Bool :=
  (match x.dst with
    | some d => y.tr.contains d || y.dst == some d
    | none => false) ||
  (match y.dst with
    | some d => x.tr.contains d
    | none => false) ||
  x.keys.any (fun q => y.br.contains q || y.keys.contains q) || y.keys.any (fun q => x.br.contains q)
def apartS (es : List Sh) (an : List (List Nat)) : Bool :=
  (List.range es.length).all fun j => (List.range j).all fun i =>
    match es[i]?, es[j]? with
    | some x, some y => !clashS x y || (an.getD j []).contains i
    | _, _ => false
def fitS (n m : Nat) (es : List Sh) : Bool :=
  es.all fun e => (match e.dst with
    | some d => decide (d < n)
    | none => true) && e.keys.all fun q => decide (q < m)
def regS (ops : List Oper) (n m : Nat) (es : List Sh) (draw : Bool) : Bool := !draw || (backB ops 0 && fitS n m es && apartS es (ancs ops []))
theorem clash_sh (x y : Eff) : clashS (shOf x) (shOf y) = clash x y := by
  unfold clashS clash shOf
  simp only [List.any_map, hasKey]
  congr 1
  congr 1
  congr 1
  funext q
  simp only [Function.comp]
  congr 1
  rw [Bool.eq_iff_iff]
  simp only [List.contains_iff_mem, List.mem_map, List.any_eq_true, beq_iff_eq]
theorem reg_sh {ops : List Oper} {s : St} {es : List Eff} {draw : Bool} (h : regS ops s.E.length s.B.length (es.map shOf) draw = true) : regB ops s es draw = true := by
  unfold regS at h
  unfold regB
  have h1 : fitS s.E.length s.B.length (es.map shOf) = fitB s es := by
    unfold fitS fitB
    rw [List.all_map]
    congr 1
    funext e
    simp only [Function.comp, shOf, List.all_map]
    rfl
  have h2 : apartS (es.map shOf) (ancs ops []) = apartB es (ancs ops []) := by
    unfold apartS apartB
    rw [List.length_map]
    congr 1
    funext j
    congr 1
    funext i
    rw [List.getElem?_map, List.getElem?_map]
    cases es[i]? <;> cases es[j]? <;> simp [clash_sh]
  rw [h1, h2] at h
  exact h
def obsOf : List Eff → List Ob
  | [] => []
  | e :: es => match e.ob with
    | some ob => ob :: obsOf es
    | none => obsOf es
theorem obs_mem : ∀ {es : List Eff} {ob : Ob}, (∃ e ∈ es, e.ob = some ob) → ob ∈ obsOf es
  | [], ob, ⟨_, h, _⟩ => by cases h
  | e :: es, ob, ⟨e', h, ho⟩ => by
    unfold obsOf
    rcases List.mem_cons.1 h with rfl | h
    · rw [ho]; exact List.mem_cons_self
    · have := obs_mem ⟨e', h, ho⟩
      split
      · exact List.mem_cons_of_mem _ this
      · exact this
def AllObs (P : Program) (Γ : Ctx) : List Ob → Prop
  | [] => True
  | [ob] => FCalls P Γ ob
  | ob :: obs => FCalls P Γ ob ∧ AllObs P Γ obs
theorem AllObs.mem {P : Program} {Γ : Ctx} : ∀ {obs : List Ob}, AllObs P Γ obs → ∀ ob ∈ obs, FCalls P Γ ob
  | [], _, ob, h => by cases h
  | [o], h, ob, hm => by rw [List.mem_singleton.1 hm]; exact h
  | o :: o2 :: obs, h, ob, hm => by
    unfold AllObs at h
    rcases List.mem_cons.1 hm with rfl | hm
    · exact h.1
    · exact h.2.mem ob hm
/-- The states behind the operations, the calls owed, what the order's check looks at. -/
def goR (P : Program) (Γ : Ctx) (ops : Array Oper) (id : Nat) (cr : List Orc) (s : St) : Option (List PV × List Blk × List Ob × List Sh) :=
  match runO P Γ ops ops.toList id cr s with
  | some es => some ((es.foldl applyE s).E, (es.foldl applyE s).B, obsOf es, es.map shOf)
  | none => none
def dead (n : Nat) : List Blk := List.replicate n (.dead 0)
section
variable {P : Program} {Γ : Ctx} {Q : Exit → St → Prop} {rid : Nat} {ops : Array Oper} {draw : Bool} {y : Code} {E E' : List PV} {B B' : List Blk} {obs : List Ob} {sh : List Sh}
/-- How many blocks a region may make. -/
def nal : List Oper → Nat
  | [] => 0
  | o :: r => nal r + (if isAlloc o.op then 1 else 0)
/-- A region. -/
theorem awp_reg (cr : List Orc) (hm : P.follows .mixedOrders = true) (hrun : goR P Γ ops B.length cr ⟨E, B ++ dead (nal ops.toList)⟩ = some (E', B', obs, sh))
    (hck : regS ops.toList E.length (B ++ dead (nal ops.toList)).length sh draw = true) (hob : AllObs P Γ obs) (h : Q .normal ⟨E', B'⟩) : AWp P Γ (.region rid ops draw) ⟨E, B⟩ Q := by
  unfold goR at hrun
  split at hrun
  · rename_i es hes
    simp only [Option.some.injEq, Prod.mk.injEq] at hrun
    obtain ⟨h1, h2, h3, h4⟩ := hrun
    refine awp_region (nal ops.toList) cr hm hes (reg_sh (by rw [h4]; exact hck)) (fun e he ob ho => hob.mem ob (by rw [← h3]; exact obs_mem ⟨e, he, ho⟩)) ?_
    have : es.foldl applyE ⟨E, B ++ List.replicate (nal ops.toList) (.dead 0)⟩ = ⟨E', B'⟩ := by rw [← h1, ← h2]; rfl
    rw [this]
    exact h
  · cases hrun
/-- A region, and what follows. -/
theorem awp_reg_seq (cr : List Orc) (hm : P.follows .mixedOrders = true) (hrun : goR P Γ ops B.length cr ⟨E, B ++ dead (nal ops.toList)⟩ = some (E', B', obs, sh))
    (hck : regS ops.toList E.length (B ++ dead (nal ops.toList)).length sh draw = true) (hob : AllObs P Γ obs) (h : AWp P Γ y ⟨E', B'⟩ Q) : AWp P Γ (.seq (.region rid ops draw) y) ⟨E, B⟩ Q :=
  awp_seq fun _ hK => awp_reg cr hm hrun hck hob (hK _ h)
theorem awp_ret1 {fn : Func} {s : St} {r : ResultVar} {i j : IV} (hr : fn.results = #[r]) (hv : valR P s r = some i) (hi : ILe i j) : AWp P Γ .ret s (retP P fn [j]) :=
  awp_ret ⟨[i], by rw [hr]; simp [valsR, hv], j, [], rfl, hi, rfl⟩
theorem awp_ret2 {fn : Func} {s : St} {r q : ResultVar} {i j i' j' : IV} (hr : fn.results = #[r, q]) (hv : valR P s r = some i) (hv' : valR P s q = some i') (hi : ILe i j) (hi' : ILe i' j') : AWp P Γ .ret s (retP P fn [j, j']) :=
  awp_ret ⟨[i, i'], by rw [hr]; simp [valsR, hv, hv'], j, [j'], rfl, hi, j', [], rfl, hi', rfl⟩
theorem awp_ret3 {fn : Func} {s : St} {r q u : ResultVar} {i j i' j' i2 j2 : IV} (hr : fn.results = #[r, q, u]) (hv : valR P s r = some i) (hv' : valR P s q = some i') (hv2 : valR P s u = some i2) (hi : ILe i j) (hi' : ILe i' j') (hi2 : ILe i2 j2) : AWp P Γ .ret s (retP P fn [j, j', j2]) :=
  awp_ret ⟨[i, i', i2], by rw [hr]; simp [valsR, hv, hv', hv2], j, [j', j2], rfl, hi, j', [j2], rfl, hi', j2, [], rfl, hi2, rfl⟩
theorem ret1 {fn : Func} {s : St} {r : ResultVar} {i j : IV} (hr : fn.results = #[r]) (hv : valR P s r = some i) (hi : ILe i j) : retP P fn [j] .ret s :=
  ⟨[i], by rw [hr]; simp [valsR, hv], j, [], rfl, hi, rfl⟩
theorem ret2 {fn : Func} {s : St} {r q : ResultVar} {i j i' j' : IV} (hr : fn.results = #[r, q]) (hv : valR P s r = some i) (hv' : valR P s q = some i') (hi : ILe i j) (hi' : ILe i' j') : retP P fn [j, j'] .ret s :=
  ⟨[i, i'], by rw [hr]; simp [valsR, hv, hv'], j, [j'], rfl, hi, j', [], rfl, hi', rfl⟩
theorem Wk.eq {m : Nat} {p p' : PV} {E E' : List PV} (h : p = p') (hb : belowB m p = true) (hE : Wk m E E') : Wk m (p :: E) (p' :: E') := h ▸ Wk.keep hb hE
end
/-- A pure call's results. -/
def ans (is : List IV) : Orc := ⟨[], resP is, []⟩
end Go.Pv

namespace Go.Pv
open Go.RowKit (Below)
set_option linter.unusedSectionVars false

mutual
/-- A row's name, by what it holds. -/
def fz (r g : Nat) (i : IV) : PV → PV
  | .any => .any
  | .imm j => .imm j
  | .agg cs => norm (.agg (fzL r g i cs))
  | .tup cs => .tup (fzL r g i cs)
  | .row r' g' => if r' = r ∧ g' = g then .imm i else .row r' g'
  | .ptr a b c => .ptr a b c
  | .eptr a b c d e => .eptr a b c d e
  | .iptr cs => .iptr cs
  | .clo f cs => .clo f cs
def fzL (r g : Nat) (i : IV) : List PV → List PV
  | [] => []
  | c :: cs => fz r g i c :: fzL r g i cs
end
def fzB (r g : Nat) (i : IV) : Blk → Blk
  | .dead g' => .dead g'
  | .box g' cs => .box g' (fzL r g i cs)
  | .row e sz g' es => .row e sz g' (fzL r g i es)
theorem fzL_imm (r g : Nat) (i : IV) : ∀ cs : List IV, fzL r g i (cs.map .imm) = cs.map .imm
  | [] => by simp [fzL]
  | c :: cs => by simp [fzL, fz, fzL_imm r g i cs]
section
variable {k k' : K} {n : Nat} {w : World} {r g : Nat} {i : IV} (he : Ext k n w k' n w) (hr : ∀ v, Rep k n w (.row r g) v → RepI k'.Q w i v)
include he hr
mutual
theorem fz_rep : ∀ (p : PV) (v : Value), Rep k n w p v → Rep k' n w (fz r g i p) v
  | .any, v, _ => by unfold fz; exact Rep_any _ _ _ _
  | .imm j, v, h => by unfold fz; exact Rep_mono he _ _ h
  | .agg cs, v, h => by
    unfold fz
    obtain ⟨vs, e, hl⟩ := Rep_agg.1 h
    exact Rep_norm (Rep_agg.2 ⟨vs, e, fzL_rep cs vs hl⟩)
  | .tup cs, v, h => by
    unfold fz
    unfold Rep at h ⊢
    obtain ⟨vs, e, hl⟩ := h
    exact ⟨vs, e, fzT_rep cs vs hl⟩
  | .row r' g', v, h => by
    unfold fz
    by_cases hc : r' = r ∧ g' = g
    · rw [if_pos hc]
      obtain ⟨rfl, rfl⟩ := hc
      exact Rep_imm.2 (hr v h)
    · rw [if_neg hc]
      exact Rep_mono he _ _ h
  | .ptr a b c, v, h => by unfold fz; exact Rep_mono he _ _ h
  | .eptr a b c d e, v, h => by unfold fz; exact Rep_mono he _ _ h
  | .iptr cs, v, h => by unfold fz; exact Rep_mono he _ _ h
  | .clo f cs, v, h => by unfold fz; exact Rep_mono he _ _ h
theorem fzL_rep : ∀ (cs : List PV) (vs : List Value), RepL k n w cs vs → RepL k' n w (fzL r g i cs) vs
  | [], vs, h => by unfold fzL; unfold RepL at h ⊢; exact h
  | c :: cs, vs, h => by
    unfold fzL
    unfold RepL at h ⊢
    obtain ⟨v, q, e, h0, h1, h2⟩ := h
    exact ⟨v, q, e, h0, fz_rep c v h1, fzL_rep cs q h2⟩
theorem fzT_rep : ∀ (cs : List PV) (vs : List Value), RepT k n w cs vs → RepT k' n w (fzL r g i cs) vs
  | [], vs, h => by unfold fzL; unfold RepT at h ⊢; exact h
  | c :: cs, vs, h => by
    unfold fzL
    unfold RepT at h ⊢
    obtain ⟨v, q, e, h1, h2⟩ := h
    exact ⟨v, q, e, fz_rep c v h1, fzT_rep cs q h2⟩
end
theorem fzE_rep {sz : Nat} : ∀ (cs : List PV) (xs : List Value), RepE k n w sz cs xs → RepE k' n w sz (fzL r g i cs) xs
  | [], xs, h => by unfold fzL; unfold RepE at h ⊢; exact h
  | c :: cs, xs, h => by
    unfold fzL
    unfold RepE at h ⊢
    obtain ⟨v, q, e, h0, h1, h2, h3⟩ := h
    exact ⟨v, q, e, h0, h1, fz_rep he hr c v h2, fzE_rep cs q h3⟩
end
theorem add0 (b j : Nat) : (⟨b, 0, none⟩ : Addr).add j = ⟨b, j, none⟩ := by unfold Addr.add; split <;> simp_all
theorem imms_eq : ∀ {es : List PV} {is : List IV}, imms es = some is → es = is.map .imm
  | [], is, h => by simp only [imms, Option.some.injEq] at h; subst h; rfl
  | .imm i :: es, is, h => by
    unfold imms at h
    split at h
    · rename_i js hj
      simp only [Option.some.injEq] at h
      subst h
      rw [List.map_cons, ← imms_eq hj]
    · cases h
  | .any :: es, is, h => by cases h
  | .agg _ :: es, is, h => by cases h
  | .tup _ :: es, is, h => by cases h
  | .ptr _ _ _ :: es, is, h => by cases h
  | .row _ _ :: es, is, h => by cases h
  | .eptr _ _ _ _ _ :: es, is, h => by cases h
  | .iptr _ :: es, is, h => by cases h
  | .clo _ _ :: es, is, h => by cases h
theorem imms_map : ∀ is : List IV, imms (is.map .imm) = some is
  | [] => rfl
  | i :: is => by simp [imms, imms_map is]
theorem rowI_rep {k : K} {Q' : Nat → Prop} {n sz : Nat} {w : World} (hq : ∀ b, k.Q b → Q' b ∧ w.heap[b]? = w.heap[b]?) : ∀ (is : List IV) (xs : List Value) (b off : Nat), RepE k n w sz (is.map .imm) xs → (∀ j u, xs[j]? = some u → w.cell? ⟨b, off + j, none⟩ = some u) → RepR Q' w sz b off is
  | [], _, _, _, _, _ => by unfold RepR; trivial
  | i :: is, xs, b, off, h, hc => by
    simp only [List.map_cons] at h
    unfold RepE at h
    obtain ⟨v, r, e, h1, h2, h3, h4⟩ := h
    subst e
    have hsz : v.cells.toList.length = sz := by rw [Array.length_toList]; exact h1
    unfold RepR
    refine ⟨⟨v, RepI_mono hq i v (Rep_imm.1 h3), h1, fun q u hq => hc q u ?_⟩, rowI_rep hq is r b (off + sz) h4 (fun q u hq => ?_)⟩
    · rw [List.getElem?_append_left (by have := (Array.getElem?_eq_some_iff.1 hq).1; omega)]
      simpa using hq
    · rw [Nat.add_assoc]
      refine hc _ u ?_
      rw [List.getElem?_append_right (by omega), hsz]
      simpa using hq
theorem imms_of {es : List PV} {is : List IV} (h : es = is.map .imm) : imms es = some is := h ▸ imms_map is
theorem fzL_map (r g : Nat) (i : IV) {α : Type} (f : α → IV) : ∀ l : List α, fzL r g i (l.map (PV.imm ∘ f)) = l.map (PV.imm ∘ f)
  | [] => by simp [fzL]
  | a :: l => by simp only [List.map_cons, fzL, Function.comp_apply, fz, fzL_map r g i f l]
theorem fzL_set (r g : Nat) (i : IV) (p : PV) : ∀ (l : List PV) (k : Nat), fzL r g i (l.set k p) = (fzL r g i l).set k (fz r g i p)
  | [], _ => by simp [fzL]
  | a :: l, 0 => by simp [fzL]
  | a :: l, k + 1 => by simp [fzL, fzL_set r g i p l k]
theorem fzL_app (r g : Nat) (i : IV) : ∀ l m : List PV, fzL r g i (l ++ m) = fzL r g i l ++ fzL r g i m
  | [], m => by simp [fzL]
  | a :: l, m => by simp [fzL, fzL_app r g i l m]
theorem RepC_le {Q : Nat → Prop} {w : World} : ∀ {is js : List IV} {vs : List Value}, ILes is js → RepC Q w is vs → RepC Q w js vs
  | [], js, vs, h, hr => by unfold ILes at h; subst h; exact hr
  | i :: is, js, vs, h, hr => by
    unfold ILes at h
    obtain ⟨j, r, e, h1, h2⟩ := h
    subst e
    unfold RepC at hr ⊢
    obtain ⟨v, r', e, h0, h3, h4⟩ := hr
    exact ⟨v, r', e, h0, h1 _ _ _ h3, RepC_le h2 h4⟩
theorem RepR_le {Q : Nat → Prop} {w : World} {sz b : Nat} : ∀ {is js : List IV} {off : Nat}, ILes is js → RepR Q w sz b off is → RepR Q w sz b off js
  | [], js, off, h, hr => by unfold ILes at h; subst h; exact hr
  | i :: is, js, off, h, hr => by
    unfold ILes at h
    obtain ⟨j, r, e, h1, h2⟩ := h
    subst e
    unfold RepR at hr ⊢
    obtain ⟨⟨v, h3, h4⟩, h5⟩ := hr
    exact ⟨⟨v, h1 _ _ _ h3, h4⟩, RepR_le h2 h5⟩
theorem ILes.agg {is js : List IV} (h : ILes is js) : ILe (.agg is) (.agg js) := fun Q w v hr => by
  obtain ⟨vs, e, hc⟩ := RepI_agg.1 hr
  exact RepI_agg.2 ⟨vs, e, RepC_le h hc⟩
theorem ILes.sl {sz : Nat} {is js : List IV} (h : ILes is js) : ILe (.sl sz is) (.sl sz js) := fun Q w v hr => by
  unfold RepI at hr ⊢
  rw [← h.len]
  obtain ⟨a, c, e, h1, h2, h3⟩ := hr
  refine ⟨a, c, e, h1, h2, fun hp => ?_⟩
  obtain ⟨b, off, ea, hq, hR⟩ := h3 hp
  exact ⟨b, off, ea, hq, RepR_le h hR⟩
theorem ILes.refl : ∀ is : List IV, ILes is is
  | [] => rfl
  | i :: is => ⟨i, is, rfl, ILe.refl i, ILes.refl is⟩
theorem ILes.cons {i j : IV} {is js : List IV} (h : ILe i j) (hs : ILes is js) : ILes (i :: is) (j :: js) := ⟨j, js, rfl, h, hs⟩
theorem ILes.set {i j : IV} (h : ILe i j) : ∀ (is : List IV) (k : Nat), ILes (is.set k i) (is.set k j)
  | [], _ => rfl
  | _ :: is, 0 => ILes.cons h (ILes.refl is)
  | _ :: is, k + 1 => ILes.cons (ILe.refl _) (ILes.set h is k)
/-- A row becomes a plain value. -/
theorem γ_frz {Γ : Ctx} {E E' : List PV} {B B' : List Blk} (r : Nat) {e : TypeId} {sz g : Nat} {es : List PV} {is : List IV} (hb : B[r]? = some (.row e sz g es)) (hes : imms es = some is) {i : IV} (hi : ILe (.sl sz is) i)
    (hE : fzL r g i E = E') (hB : (B.map (fzB r g i)).set r (.dead g) = B') {a : Act} {w : World} (h : γ Γ ⟨E, B⟩ a w) : γ Γ ⟨E', B'⟩ a w := by
  obtain ⟨hd, k, hI, hT⟩ := h
  have hrl : r < B.length := (List.getElem?_eq_some_iff.1 hb).1
  let k' : K := ⟨k.ρ, k.G, fun b => k.Q b ∨ base (k.ρ r) = some b⟩
  have hbase : ∀ b, base (k.ρ r) = some b → Γ.N ≤ b ∧ b < w.heap.size := fun b hb' => (hI.sep r _ b hb hb').2
  have he : Ext k B.length w k' B.length w := ⟨Nat.le_refl _, fun b hb => ⟨Or.inl hb, rfl⟩, fun _ _ => ⟨Nat.le_refl _, fun _ => rfl⟩⟩
  -- the row reads as its plain value
  have hr0 : ∀ v, Rep k B.length w (.row r g) v → RepI k'.Q w (.sl sz is) v := by
    intro v hv
    have hes' := imms_eq hes
    obtain ⟨xs, ev, hown, hE', hG⟩ := ref_row (s := ⟨E, B⟩) hI hv hb
    have hl : is.length = es.length := by rw [hes']; simp
    unfold RepI
    rcases hown.2 with ⟨e1, e2⟩ | ⟨b, cap, cur, e1, e2, e3, e4, e5, _⟩
    · exact ⟨none, 0, by rw [hl, e2, ev]; exact e1, by omega, Nat.zero_le _, fun hp => absurd hp (by omega)⟩
    · refine ⟨some ⟨b, 0, none⟩, cap, by rw [hl, ev]; exact e1, by omega, e5, fun _ => ⟨b, 0, rfl, Or.inr (by rw [e1]; rfl), ?_⟩⟩
      rw [hes'] at hE'
      refine rowI_rep he.q is xs b 0 hE' (fun j u hj => ?_)
      have := hown.cells (g := b) (by rw [e1]; rfl) j u hj
      rw [Nat.zero_add]
      have hadd : (⟨b, 0, none⟩ : Addr).add j = ⟨b, j, none⟩ := add0 b j
      rw [hadd] at this
      exact this
  have hr : ∀ v, Rep k B.length w (.row r g) v → RepI k'.Q w i v := fun v h => hi _ _ _ (hr0 v h)
  have hlen : B'.length = B.length := by rw [← hB]; simp
  have hat : ∀ q x, B'[q]? = some x → (q = r ∧ x = .dead g) ∨ (q ≠ r ∧ ∃ y, B[q]? = some y ∧ x = fzB r g i y) := by
    intro q x hx
    rw [← hB] at hx
    by_cases hq : q = r
    · subst hq
      rw [List.getElem?_set_self (by simpa using hrl)] at hx
      exact Or.inl ⟨rfl, (Option.some.inj hx).symm⟩
    · rw [List.getElem?_set_ne (Ne.symm hq), List.getElem?_map] at hx
      cases hy : B[q]? with
      | none => rw [hy] at hx; cases hx
      | some y => rw [hy] at hx; exact Or.inr ⟨hq, y, rfl, (Option.some.inj hx).symm⟩
  have hown : ∀ q x b, B'[q]? = some x → own k' q x = some b → ∃ y, B[q]? = some y ∧ own k q y = some b ∧ q ≠ r := by
    intro q x b hx hb'
    rcases hat q x hx with ⟨_, h2⟩ | ⟨h1, y, h2, h3⟩
    · subst h2; cases hb'
    · refine ⟨y, h2, ?_, h1⟩
      subst h3
      cases y <;> exact hb'
  refine ⟨hd, k', ⟨hI.below, fun b hb' => hb'.elim (hI.lt b) (fun h => (hbase b h).2), hI.le, fun b hb' => hb'.elim (hI.qs b) (fun h => Or.inr (hbase b h).1), hI.rr, fun gg cs hc => ?_, fun q x hx => ?_, fun q x b hx hb' => ?_, fun q q' x x' b hx hx' h1 h2 => ?_, ⟨fun b hb' => ?_, by rw [hlen]; exact hI.kp.ext.trans he⟩, fun q x b hx hb' => ?_⟩, ?_⟩
  · show Rep k' B'.length w _ _
    rw [hlen]; exact Rep_mono he _ _ (hI.gl gg cs hc)
  · show BlkRep Γ k' B'.length w q x
    rw [hlen]
    rcases hat q x hx with ⟨h1, h2⟩ | ⟨h1, y, h2, h3⟩
    · subst h1; subst h2
      obtain ⟨g1, _⟩ := hI.blk q _ hb
      exact g1
    · have hbk := hI.blk q y h2
      subst h3
      cases y with
      | dead g' => exact hbk
      | box g' cs =>
        obtain ⟨h4, b, c, ty, h5, h6, h7, h8⟩ := hbk
        exact ⟨h4, b, c, ty, h5, h6, h7, fzL_rep he hr cs _ h8⟩
      | row e' sz' g' es' =>
        obtain ⟨h4, xs, h5, h6⟩ := hbk
        refine ⟨h4, xs, ?_, fzE_rep he hr es' xs h6⟩
        have hl : (fzL r g i es').length = es'.length := by
          have : ∀ l : List PV, (fzL r g i l).length = l.length := by
            intro l
            induction l with
            | nil => simp [fzL]
            | cons a l ih => simp [fzL, ih]
          exact this es'
        rw [hl]
        exact h5
  · obtain ⟨y, h2, h3, h4⟩ := hown q x b hx hb'
    obtain ⟨g1, g2, g3⟩ := hI.sep q y b h2 h3
    refine ⟨fun hq => hq.elim g1 (fun h => ?_), g2, g3⟩
    exact h4 (hI.inj q r y _ b h2 hb h3 h)
  · obtain ⟨y, h3, h4, _⟩ := hown q x b hx h1
    obtain ⟨y', h5, h6, _⟩ := hown q' x' b hx' h2
    exact hI.inj q q' y y' b h3 h5 h4 h6
  · obtain ⟨g1, g2, g3⟩ := hI.kp.fr b hb'
    exact ⟨g1, g2, fun hq => hq.elim g3 (fun h => hI.nf r _ b hb h hb')⟩
  · obtain ⟨y, h2, h3, _⟩ := hown q x b hx hb'
    exact hI.nf q y b h2 h3
  · show RepT k' B'.length w E' _
    rw [hlen, ← hE]
    exact fzT_rep he hr E _ hT
theorem awp_frz {P : Program} {Γ : Ctx} {c : Code} {Q : Exit → St → Prop} {E E' : List PV} {B B' : List Blk} (r : Nat) {e : TypeId} {sz g : Nat} {es : List PV} {is : List IV} (hb : B[r]? = some (.row e sz g es)) (hes : imms es = some is) {i : IV} (hi : ILe (.sl sz is) i)
    (hE : fzL r g i E = E') (hB : (B.map (fzB r g i)).set r (.dead g) = B') (h : AWp P Γ c ⟨E', B'⟩ Q) : AWp P Γ c ⟨E, B⟩ Q := fun hX a w hg => h hX a w (γ_frz r hb hes hi hE hB hg)
end Go.Pv
