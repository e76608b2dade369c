/-
  The plain mathematics of edits: applying them, undoing them, and those that come of common subsequences. It imports nothing of the program.
-/
import Derived.Test.YtklegjmlpaimpaaLcs
namespace Go.Proofs.Ytklegjmlpaimpaa
namespace Lcs

/-- An edit: where, what is taken out, what is put in. -/
structure Ed where
  pos : Int
  old : List Str
  new : List Str

/-- May the edit stand behind index i? f: none stands ahead of it. -/
def Fit (a : List Str) (i : Nat) (f : Bool) (e : Ed) : Prop :=
  ¬ (e.old = [] ∧ e.new = []) ∧ (i : Int) ≤ e.pos ∧ (f = true ∨ e.pos ≠ i) ∧ e.pos + e.old.length ≤ a.length ∧ (a.drop e.pos.toNat).take e.old.length = e.old
instance (a : List Str) (i : Nat) (f : Bool) (e : Ed) : Decidable (Fit a i f e) := by unfold Fit; infer_instance
/-- The list from an index on, with the edits applied. -/
def apl (a : List Str) : Nat → Bool → List Ed → Option (List Str)
  | i, _, [] => some (a.drop i)
  | i, f, e :: r => if Fit a i f e then (apl a (e.pos.toNat + e.old.length) false r).map fun t => (a.drop i).take (e.pos.toNat - i) ++ (e.new ++ t) else none
/-- The edits that undo; the number is the shift. -/
def inv : Int → List Ed → List Ed
  | _, [] => []
  | s, e :: r => ⟨e.pos + s, e.new, e.old⟩ :: inv (s + e.new.length - e.old.length) r
/-- How many words the edits touch. -/
def size : List Ed → Nat
  | [] => 0
  | e :: r => e.old.length + e.new.length + size r
theorem apl_cons {a : List Str} {i : Nat} {f : Bool} {e : Ed} {r : List Ed} {t : List Str} (h : apl a i f (e :: r) = some t) : Fit a i f e ∧ ∃ t', apl a (e.pos.toNat + e.old.length) false r = some t' ∧ t = (a.drop i).take (e.pos.toNat - i) ++ (e.new ++ t') := by
  unfold apl at h
  by_cases hf : Fit a i f e
  · rw [if_pos hf] at h
    refine ⟨hf, ?_⟩
    cases ha : apl a (e.pos.toNat + e.old.length) false r with
    | none => rw [ha] at h; cases h
    | some t' => rw [ha] at h; exact ⟨t', rfl, by injection h with h; exact h.symm⟩
  · rw [if_neg hf] at h; cases h
/-- What stands from an index on, parted at an edit. -/
theorem part {a : List Str} {i p m : Nat} (hi : i ≤ p) {o : List Str} (ho : (a.drop p).take m = o) : a.drop i = (a.drop i).take (p - i) ++ (o ++ a.drop (p + m)) := by
  have h1 : a.drop i = (a.drop i).take (p - i) ++ (a.drop i).drop (p - i) := (List.take_append_drop _ _).symm
  have h2 : a.drop p = (a.drop p).take m ++ (a.drop p).drop m := (List.take_append_drop _ _).symm
  rw [List.drop_drop, show i + (p - i) = p by omega] at h1
  rw [List.drop_drop] at h2
  rw [ho] at h2
  rw [← h2]
  exact h1
theorem undo_aux (a b : List Str) : ∀ (l : List Ed) (i j : Nat) (f : Bool) (s : Int) (t : List Str), apl a i f l = some t → b.drop j = t → j ≤ b.length → (j : Int) = i + s → apl b j f (inv s l) = some (a.drop i)
  | [], i, j, f, s, t, h, hb, _, _ => by
    unfold apl at h
    unfold inv apl
    rw [hb, ← h]
  | e :: r, i, j, f, s, t, h, hb, hj, hs => by
    obtain ⟨⟨k1, k2, k3, k4, k5⟩, t', h1, h2⟩ := apl_cons h
    obtain ⟨p, hp⟩ : ∃ p : Nat, e.pos = p := ⟨e.pos.toNat, by omega⟩
    have hpt : e.pos.toNat = p := by omega
    rw [hpt] at h1 h2 k5
    have hip : i ≤ p := by omega
    have hpl : p + e.old.length ≤ a.length := by omega
    have hlen : (a.drop i).length = a.length - i := List.length_drop
    have htl : b.length - j = (p - i) + (e.new.length + t'.length) := by
      have h3 := congrArg List.length hb
      rw [h2, List.length_drop] at h3
      simp only [List.length_append, List.length_take, List.length_drop] at h3
      omega
    have hq : e.pos + s = ((j + (p - i) : Nat) : Int) := by omega
    have hqt : (e.pos + s).toNat = j + (p - i) := by omega
    have hd : b.drop (j + (p - i)) = e.new ++ t' := by
      rw [← List.drop_drop, hb, h2, List.drop_append_of_le_length (by rw [List.length_take]; omega), List.drop_of_length_le (by rw [List.length_take]; omega), List.nil_append]
    have htk : (b.drop j).take (p - i) = (a.drop i).take (p - i) := by
      rw [hb, h2, List.take_append_of_le_length (by rw [List.length_take]; omega), List.take_take, Nat.min_self]
    unfold inv apl
    rw [if_pos]
    · simp only []
      rw [hqt, undo_aux a b r (p + e.old.length) (j + (p - i) + e.new.length) false (s + e.new.length - e.old.length) t' h1 (by rw [← List.drop_drop, hd, List.drop_left]) (by omega) (by omega)]
      simp only [Option.map_some]
      rw [show j + (p - i) - j = p - i by omega, htk]
      exact congrArg some (part hip k5).symm
    · refine ⟨fun h => k1 ⟨h.2, h.1⟩, by simp only []; omega, ?_, by simp only []; omega, ?_⟩
      · rcases k3 with k3 | k3
        · exact Or.inl k3
        · exact Or.inr (by simp only []; omega)
      · simp only []
        rw [hqt, hd, List.take_left]
/-- The edits that undo bring the list back. -/
theorem undo {a b : List Str} {l : List Ed} (h : apl a 0 true l = some b) : apl b 0 true (inv 0 l) = some a := by
  have := undo_aux a b l 0 0 true 0 b h rfl (Nat.zero_le _) (by omega)
  simpa using this
/-- No edits touch fewer words than the distance. -/
theorem least_aux (a : List Str) : ∀ (l : List Ed) (i : Nat) (f : Bool) (t : List Str), apl a i f l = some t → (a.length - i) + t.length ≤ size l + 2 * lcs (a.drop i) t
  | [], i, f, t, h => by
    unfold apl at h
    obtain rfl : a.drop i = t := by injection h
    rw [lcs_self, List.length_drop]
    unfold size
    omega
  | e :: r, i, f, t, h => by
    obtain ⟨⟨k1, k2, k3, k4, k5⟩, t', h1, h2⟩ := apl_cons h
    obtain ⟨p, hp⟩ : ∃ p : Nat, e.pos = p := ⟨e.pos.toNat, by omega⟩
    have hpt : e.pos.toNat = p := by omega
    rw [hpt] at h1 h2 k5
    have ih := least_aux a r _ _ _ h1
    have hp1 := part (i := i) (p := p) (by omega) k5
    have h3 : (p - i) + lcs (a.drop (p + e.old.length)) t' ≤ lcs (a.drop i) t := by
      have hQ : ((a.drop i).take (p - i)).length = p - i := by rw [List.length_take, List.length_drop]; omega
      generalize (a.drop i).take (p - i) = Q at h2 hp1 hQ
      rw [h2, hp1, lcs_app, hQ]
      have := app_le e.new (a.drop (p + e.old.length)) t'
      have := app_le' e.old (a.drop (p + e.old.length)) (e.new ++ t')
      omega
    have h4 := congrArg List.length h2
    simp only [List.length_append, List.length_take, List.length_drop] at h4
    unfold size
    omega
theorem least {a b : List Str} {l : List Ed} (h : apl a 0 true l = some b) : far a b ≤ size l := by
  have := least_aux a l 0 true b h
  rw [List.drop_zero] at this
  unfold far
  omega

/-- The edit of a gap. -/
def gap (a b : List Str) (i k x y : Nat) : List Ed := if i < x ∨ k < y then [⟨i, (a.drop i).take (x - i), (b.drop k).take (y - k)⟩] else []
/-- The edits between pairs. -/
def eds (a b : List Str) : Nat → Nat → List (Nat × Nat) → List Ed
  | i, k, [] => gap a b i k a.length b.length
  | i, k, p :: r => gap a b i k p.1 p.2 ++ eds a b (p.1 + 1) (p.2 + 1) r
theorem take_to (l : List Str) (i x : Nat) (h : i ≤ x) : (l.drop i).take (x - i) ++ l.drop x = l.drop i := by
  have h1 : l.drop i = (l.drop i).take (x - i) ++ (l.drop i).drop (x - i) := (List.take_append_drop _ _).symm
  rw [List.drop_drop, show i + (x - i) = x by omega] at h1
  exact h1.symm
theorem take_len {l : List Str} {i x : Nat} (h : i ≤ x) (hx : x ≤ l.length) : ((l.drop i).take (x - i)).length = x - i := by
  rw [List.length_take, List.length_drop]; omega
theorem take_one {l : List Str} {i x : Nat} (h : i ≤ x) (hx : x < l.length) : (l.drop i).take (x + 1 - i) = (l.drop i).take (x - i) ++ [st l x] := by
  rw [show x + 1 - i = (x - i) + 1 by omega, List.take_succ_eq_append_getElem (by rw [List.length_drop]; omega), st_eq hx]
  simp only [List.getElem_drop]
  congr 3
  omega
theorem gap_fit {a b : List Str} {i0 i k x y : Nat} {f : Bool} (h0 : i0 ≤ i) (hf : f = true ∨ i0 < i) (hi : i ≤ x) (hk : k ≤ y) (hx : x ≤ a.length) (hy : y ≤ b.length) (hne : i < x ∨ k < y) : Fit a i0 f ⟨i, (a.drop i).take (x - i), (b.drop k).take (y - k)⟩ := by
  have e1 := take_len (l := a) hi hx
  have e2 := take_len (l := b) hk hy
  refine ⟨fun ⟨h1, h2⟩ => ?_, by simp only []; omega, ?_, by simp only [e1]; omega, by simp only [e1]; rfl⟩
  · simp only at h1 h2
    rw [h1] at e1
    rw [h2] at e2
    simp only [List.length_nil] at e1 e2
    omega
  · rcases hf with hf | hf
    · exact Or.inl hf
    · exact Or.inr (by simp only []; omega)
theorem eds_apl (a b : List Str) : ∀ (ps : List (Nat × Nat)) (i0 i k : Nat) (f : Bool), Chain a b i k ps → i0 ≤ i → i ≤ a.length → k ≤ b.length → (f = true ∨ i0 < i) → apl a i0 f (eds a b i k ps) = some ((a.drop i0).take (i - i0) ++ b.drop k)
  | [], i0, i, k, f, _, h0, hi, hk, hf => by
    unfold eds gap
    by_cases h : i < a.length ∨ k < b.length
    · rw [if_pos h]
      unfold apl
      rw [if_pos (gap_fit h0 hf hi hk (Nat.le_refl _) (Nat.le_refl _) h)]
      simp only [apl]
      rw [take_len hi (Nat.le_refl _), Int.toNat_natCast, List.drop_of_length_le (i := i + (a.length - i)) (by omega), Option.map_some, List.append_nil, List.take_of_length_le (l := b.drop k) (by rw [List.length_drop]; omega)]
    · rw [if_neg h]
      unfold apl
      obtain rfl : i = a.length := by omega
      rw [List.drop_of_length_le (l := b) (by omega), List.append_nil, List.take_of_length_le (by rw [List.length_drop]; omega)]
  | p :: r, i0, i, k, f, hc, h0, hi, hk, hf => by
    obtain ⟨c1, c2, c3, c4, c5, c6⟩ := hc
    have e1 : a.drop p.1 = st a p.1 :: a.drop (p.1 + 1) := drop_st c3
    have e2 : b.drop p.2 = st b p.2 :: b.drop (p.2 + 1) := drop_st c4
    have e3 := take_to b k p.2 c2
    unfold eds gap
    by_cases h : i < p.1 ∨ k < p.2
    · rw [if_pos h, List.singleton_append]
      unfold apl
      rw [if_pos (gap_fit h0 hf c1 c2 (by omega) (by omega) h)]
      simp only []
      rw [take_len c1 (by omega), Int.toNat_natCast, show i + (p.1 - i) = p.1 by omega, eds_apl a b r p.1 (p.1 + 1) (p.2 + 1) false c6 (by omega) (by omega) (by omega) (Or.inr (by omega))]
      rw [show p.1 + 1 - p.1 = 1 by omega, e1, c5]
      simp only [Option.map_some, List.take_succ_cons, List.take_zero, List.singleton_append]
      rw [← e2, e3]
    · rw [if_neg h, List.nil_append]
      obtain rfl : i = p.1 := by omega
      obtain rfl : k = p.2 := by omega
      rw [eds_apl a b r i0 (p.1 + 1) (p.2 + 1) f c6 (by omega) (by omega) (by omega) (by
        rcases hf with hf | hf
        · exact Or.inl hf
        · exact Or.inr (by omega))]
      rw [e2, ← c5, take_one h0 c3, List.append_assoc]
      rfl
theorem gap_size {a b : List Str} {i k x y : Nat} (hi : i ≤ x) (hk : k ≤ y) (hx : x ≤ a.length) (hy : y ≤ b.length) : size (gap a b i k x y) = (x - i) + (y - k) := by
  unfold gap
  by_cases h : i < x ∨ k < y
  · rw [if_pos h]
    unfold size size
    rw [take_len hi hx, take_len hk hy]
    omega
  · rw [if_neg h]
    unfold size
    omega
theorem size_app (l m : List Ed) : size (l ++ m) = size l + size m := by
  induction l with
  | nil => simp [size]
  | cons e l ih => rw [List.cons_append, size, size, ih]; omega
theorem eds_size (a b : List Str) : ∀ (ps : List (Nat × Nat)) (i k : Nat), Chain a b i k ps → i ≤ a.length → k ≤ b.length → size (eds a b i k ps) + 2 * ps.length = (a.length - i) + (b.length - k)
  | [], i, k, _, hi, hk => by
    unfold eds
    rw [gap_size hi hk (Nat.le_refl _) (Nat.le_refl _)]
    rfl
  | p :: r, i, k, hc, hi, hk => by
    obtain ⟨c1, c2, c3, c4, c5, c6⟩ := hc
    unfold eds
    rw [size_app, gap_size c1 c2 (by omega) (by omega), List.length_cons]
    have := eds_size a b r (p.1 + 1) (p.2 + 1) c6 (by omega) (by omega)
    omega
/-- The pairs, none for lists that are too long. -/
def prl (a b : List Str) : List (Nat × Nat) := if 256 < a.length ∨ 256 < b.length then [] else pairs a b 0 0
theorem prl_chain (a b : List Str) : Chain a b 0 0 (prl a b) := by
  unfold prl
  split
  · trivial
  · exact pairs_chain a b 0 0
/-- The edits from one list to another. -/
def dif (a b : List Str) : List Ed := eds a b 0 0 (prl a b)
theorem dif_apl (a b : List Str) : apl a 0 true (dif a b) = some b := by
  unfold dif
  have := eds_apl a b (prl a b) 0 0 0 true (prl_chain a b) (Nat.le_refl _) (Nat.zero_le _) (Nat.zero_le _) (Or.inl rfl)
  simpa using this
theorem dif_size (a b : List Str) (ha : a.length ≤ 256) (hb : b.length ≤ 256) : (size (dif a b) : Int) = far a b := by
  have h := eds_size a b (prl a b) 0 0 (prl_chain a b) (Nat.zero_le _) (Nat.zero_le _)
  have e : (prl a b).length = lcs a b := by
    unfold prl
    rw [if_neg (by omega), pairs_len]
    rfl
  unfold far dif
  omega
/-- Every edit touches a word. -/
theorem fit_pos {a : List Str} {i : Nat} {f : Bool} {e : Ed} (h : Fit a i f e) : 0 < e.old.length + e.new.length := by
  rcases Nat.eq_zero_or_pos (e.old.length + e.new.length) with h0 | h0
  · exact absurd ⟨List.eq_nil_of_length_eq_zero (by omega), List.eq_nil_of_length_eq_zero (by omega)⟩ h.1
  · exact h0
theorem dif_nil (a b : List Str) (ha : a.length ≤ 256) (hb : b.length ≤ 256) : dif a b = [] ↔ a = b := by
  constructor
  · intro h
    have := dif_apl a b
    rw [h] at this
    simpa [apl] using this
  · rintro rfl
    have h := dif_size a a ha hb
    rw [far_self] at h
    have h2 := dif_apl a a
    cases hd : dif a a with
    | nil => rfl
    | cons e r =>
      rw [hd] at h h2
      have := fit_pos (apl_cons h2).1
      unfold size at h
      omega
end Lcs
end Go.Proofs.Ytklegjmlpaimpaa
