/-
  The plain mathematics of longest common subsequences: their length, the pairs that are found from the front, and distances. It imports nothing of the program.
-/
namespace Go.Proofs.YtcacnelhppakoaaDoor
namespace Lcs

abbrev Str := ByteArray

/-- The length of a longest common subsequence. -/
def lcs : List Str → List Str → Nat
  | [], _ => 0
  | _ :: _, [] => 0
  | x :: xs, y :: ys => if x = y then lcs xs ys + 1 else max (lcs xs (y :: ys)) (lcs (x :: xs) ys)
termination_by a b => a.length + b.length
theorem lcs_nil (b : List Str) : lcs [] b = 0 := by rw [lcs]
theorem lcs_nil' (a : List Str) : lcs a [] = 0 := by
  cases a <;> rw [lcs]
theorem lcs_same (x : Str) (xs ys : List Str) : lcs (x :: xs) (x :: ys) = lcs xs ys + 1 := by rw [lcs, if_pos rfl]
theorem lcs_other {x y : Str} (h : x ≠ y) (xs ys : List Str) : lcs (x :: xs) (y :: ys) = max (lcs xs (y :: ys)) (lcs (x :: xs) ys) := by rw [lcs, if_neg h]
theorem lcs_comm : ∀ (n : Nat) (a b : List Str), a.length + b.length ≤ n → lcs a b = lcs b a
  | _, [], b, _ => by rw [lcs_nil, lcs_nil']
  | _, _ :: _, [], _ => by rw [lcs_nil, lcs_nil']
  | 0, _ :: _, _ :: _, h => absurd h (by simp)
  | n + 1, x :: xs, y :: ys, h => by
    simp only [List.length_cons] at h
    by_cases e : x = y
    · subst e
      rw [lcs_same, lcs_same, lcs_comm n xs ys (by omega)]
    · rw [lcs_other e, lcs_other (Ne.symm e), lcs_comm n xs (y :: ys) (by simp; omega), lcs_comm n (x :: xs) ys (by simp; omega), Nat.max_comm]
theorem comm (a b : List Str) : lcs a b = lcs b a := lcs_comm _ a b (Nat.le_refl _)
theorem step_aux : ∀ (n : Nat) (xs ys : List Str), xs.length + ys.length ≤ n → (∀ x, lcs xs ys ≤ lcs (x :: xs) ys) ∧ (∀ y, lcs xs (y :: ys) ≤ lcs xs ys + 1) := by
  intro n
  induction n with
  | zero =>
    intro xs ys h
    obtain rfl : xs = [] := List.eq_nil_of_length_eq_zero (by omega)
    exact ⟨fun x => by rw [lcs_nil]; omega, fun y => by rw [lcs_nil]; omega⟩
  | succ n ih =>
    intro xs ys h
    have hC : ∀ x, lcs xs ys ≤ lcs (x :: xs) ys := by
      intro x
      cases ys with
      | nil => rw [lcs_nil']; omega
      | cons y ys =>
        by_cases e : x = y
        · subst e
          rw [lcs_same]
          exact (ih xs ys (by simp at h; omega)).2 x
        · rw [lcs_other e]; omega
    refine ⟨hC, fun y => ?_⟩
    cases xs with
    | nil => rw [lcs_nil]; omega
    | cons x xs =>
      have i1 := ih xs ys (by simp at h; omega)
      have c1 := i1.1 x
      by_cases e : x = y
      · subst e
        rw [lcs_same]; omega
      · rw [lcs_other e]
        have := i1.2 y
        omega
theorem left_le (x : Str) (xs ys : List Str) : lcs xs ys ≤ lcs (x :: xs) ys := (step_aux _ xs ys (Nat.le_refl _)).1 x
theorem right_le (y : Str) (xs ys : List Str) : lcs xs ys ≤ lcs xs (y :: ys) := by rw [comm xs ys, comm xs (y :: ys)]; exact left_le y ys xs
theorem right_ge (y : Str) (xs ys : List Str) : lcs xs (y :: ys) ≤ lcs xs ys + 1 := (step_aux _ xs ys (Nat.le_refl _)).2 y
theorem left_ge (x : Str) (xs ys : List Str) : lcs (x :: xs) ys ≤ lcs xs ys + 1 := by rw [comm xs ys, comm (x :: xs) ys]; exact right_ge x ys xs
theorem len_left : ∀ (a b : List Str), lcs a b ≤ a.length
  | [], b => by rw [lcs_nil]; exact Nat.le_refl _
  | x :: xs, b => by have := left_ge x xs b; have := len_left xs b; simp only [List.length_cons]; omega
theorem len_right (a b : List Str) : lcs a b ≤ b.length := by rw [comm]; exact len_left b a
theorem app_le (p a b : List Str) : lcs a b ≤ lcs a (p ++ b) := by
  induction p with
  | nil => exact Nat.le_refl _
  | cons x p ih => have := right_le x a (p ++ b); simp only [List.cons_append]; omega
theorem drop_le (a b : List Str) (m n : Nat) (h : m ≤ n) : lcs a (b.drop n) ≤ lcs a (b.drop m) := by
  have e : b.drop m = (b.drop m).take (n - m) ++ b.drop n := by
    have := List.take_append_drop (n - m) (b.drop m)
    rw [List.drop_drop, show m + (n - m) = n by omega] at this
    exact this.symm
  rw [e]
  exact app_le _ _ _

/-- The first index of a word in a list. -/
def idx (x : Str) : List Str → Option Nat
  | [] => none
  | y :: r => if y = x then some 0 else (idx x r).map (· + 1)
theorem idx_some {x : Str} : ∀ {l : List Str} {k : Nat}, idx x l = some k → k < l.length ∧ l[k]? = some x ∧ ∀ j, j < k → l[j]? ≠ some x
  | [], _, h => by simp [idx] at h
  | y :: r, k, h => by
    unfold idx at h
    by_cases e : y = x
    · rw [if_pos e] at h
      obtain rfl : 0 = k := by simpa using h
      subst e
      exact ⟨by simp, rfl, fun j hj => absurd hj (by omega)⟩
    · rw [if_neg e] at h
      cases hi : idx x r with
      | none => rw [hi] at h; cases h
      | some m =>
        rw [hi] at h
        obtain rfl : m + 1 = k := by simpa using h
        obtain ⟨h1, h2, h3⟩ := idx_some hi
        refine ⟨by simp; omega, by simpa using h2, fun j hj => ?_⟩
        cases j with
        | zero => simpa using e
        | succ j => simpa using h3 j (by omega)
theorem idx_none {x : Str} : ∀ {l : List Str}, idx x l = none → ∀ j : Nat, l[j]? ≠ some x
  | [], _, j => by simp
  | y :: r, h, j => by
    unfold idx at h
    by_cases e : y = x
    · rw [if_pos e] at h; cases h
    · rw [if_neg e] at h
      have hn : idx x r = none := by simpa using h
      cases j with
      | zero => simpa using e
      | succ j => simpa using idx_none hn j
theorem idx_of {x : Str} : ∀ {l : List Str} {k : Nat}, l[k]? = some x → (∀ j, j < k → l[j]? ≠ some x) → idx x l = some k
  | [], _, h, _ => by simp at h
  | y :: r, 0, h, _ => by
    have e : y = x := by simpa using h
    unfold idx
    rw [if_pos e]
  | y :: r, k + 1, h, hn => by
    have e : y ≠ x := by have := hn 0 (by omega); simpa using this
    unfold idx
    rw [if_neg e, idx_of (l := r) (k := k) (by simpa using h) (fun j hj => by simpa using hn (j + 1) (by omega))]
    rfl
theorem idx_of_none {x : Str} {l : List Str} (h : ∀ j, j < l.length → l[j]? ≠ some x) : idx x l = none := by
  cases hi : idx x l with
  | none => rfl
  | some k => exact absurd (idx_some hi).2.1 (h k (idx_some hi).1)
theorem lcs_none {x : Str} (xs : List Str) : ∀ {ys : List Str}, idx x ys = none → lcs (x :: xs) ys = lcs xs ys
  | [], _ => by rw [lcs_nil', lcs_nil']
  | y :: ys, h => by
    unfold idx at h
    by_cases e : y = x
    · rw [if_pos e] at h; cases h
    · rw [if_neg e] at h
      rw [lcs_other (Ne.symm e), lcs_none xs (ys := ys) (by simpa using h)]
      have := right_le y xs ys
      omega
theorem lcs_first {x : Str} (xs : List Str) : ∀ {ys : List Str} {k : Nat}, idx x ys = some k → lcs (x :: xs) ys = max (lcs xs ys) (lcs xs (ys.drop (k + 1)) + 1)
  | [], _, h => by simp [idx] at h
  | y :: ys, k, h => by
    unfold idx at h
    by_cases e : y = x
    · rw [if_pos e] at h
      obtain rfl : 0 = k := by simpa using h
      subst e
      rw [lcs_same]
      have := right_ge y xs ys
      simp only [List.drop_succ_cons, List.drop_zero]
      omega
    · rw [if_neg e] at h
      cases hi : idx x ys with
      | none => rw [hi] at h; cases h
      | some m =>
        rw [hi] at h
        obtain rfl : m + 1 = k := by simpa using h
        rw [lcs_other (Ne.symm e), lcs_first xs hi]
        have := right_le y xs ys
        simp only [List.drop_succ_cons]
        omega

/-- The length of a longest common subsequence of what is left from two indices on. -/
def T (a b : List Str) (i j : Nat) : Nat := lcs (a.drop i) (b.drop j)
/-- The k-th word. -/
def st (L : List Str) (k : Nat) : Str := L.getD k ByteArray.empty
theorem st_eq {L : List Str} {k : Nat} (hk : k < L.length) : st L k = L[k] := by
  unfold st
  rw [List.getD, List.getElem?_eq_getElem hk]
  rfl
theorem drop_st {L : List Str} {k : Nat} (hk : k < L.length) : L.drop k = st L k :: L.drop (k + 1) := by
  rw [st_eq hk]
  exact List.drop_eq_getElem_cons hk
theorem T_end (a b : List Str) (i j : Nat) (h : a.length ≤ i) : T a b i j = 0 := by
  unfold T; rw [List.drop_of_length_le h, lcs_nil]
theorem T_end' (a b : List Str) (i j : Nat) (h : b.length ≤ j) : T a b i j = 0 := by
  unfold T; rw [List.drop_of_length_le h, lcs_nil']
theorem T_same {a b : List Str} {i j : Nat} (hi : i < a.length) (hj : j < b.length) (h : st a i = st b j) : T a b i j = 1 + T a b (i + 1) (j + 1) := by
  unfold T; rw [drop_st hi, drop_st hj, h, lcs_same]; omega
theorem T_other {a b : List Str} {i j : Nat} (hi : i < a.length) (hj : j < b.length) (h : st a i ≠ st b j) : T a b i j = max (T a b (i + 1) j) (T a b i (j + 1)) := by
  unfold T; rw [drop_st hi, drop_st hj, lcs_other h]
theorem T_down {a b : List Str} {i j : Nat} (hi : i < a.length) : T a b (i + 1) j ≤ T a b i j := by
  unfold T; rw [drop_st hi]; exact left_le _ _ _
theorem T_right {a b : List Str} {i j : Nat} (hj : j < b.length) : T a b i (j + 1) ≤ T a b i j := by
  unfold T; rw [drop_st hj]; exact right_le _ _ _
theorem T_down1 {a b : List Str} {i j : Nat} (hi : i < a.length) : T a b i j ≤ T a b (i + 1) j + 1 := by
  unfold T; rw [drop_st hi]; exact left_ge _ _ _
theorem T_right1 {a b : List Str} {i j : Nat} (hj : j < b.length) : T a b i j ≤ T a b i (j + 1) + 1 := by
  unfold T; rw [drop_st hj]; exact right_ge _ _ _
theorem T_mono (a b : List Str) (i : Nat) {m n : Nat} (h : m ≤ n) : T a b i n ≤ T a b i m := drop_le _ _ _ _ h
theorem T_le (a b : List Str) (i j : Nat) : T a b i j ≤ a.length := by
  have := len_left (a.drop i) (b.drop j); unfold T; rw [List.length_drop] at this; omega
theorem T_none {a b : List Str} {i f : Nat} (hi : i < a.length) (h : idx (st a i) (b.drop f) = none) : T a b i f = T a b (i + 1) f := by
  unfold T; rw [drop_st hi]; exact lcs_none _ h
theorem T_first {a b : List Str} {i f k : Nat} (hi : i < a.length) (h : idx (st a i) (b.drop f) = some k) : T a b i f = max (T a b (i + 1) f) (T a b (i + 1) (f + k + 1) + 1) := by
  unfold T; rw [drop_st hi, lcs_first _ h, List.drop_drop, show f + (k + 1) = f + k + 1 by omega]

/-- The pairs that are found from the front; the first number bounds the steps. -/
def prs (a b : List Str) : Nat → Nat → Nat → List (Nat × Nat)
  | 0, _, _ => []
  | g + 1, i, f => match idx (st a i) (b.drop f) with
    | none => prs a b g (i + 1) f
    | some k => if 1 + T a b (i + 1) (f + k + 1) = T a b i f then (i, f + k) :: prs a b g (i + 1) (f + k + 1) else prs a b g (i + 1) f
/-- The pairs from two indices on. -/
def pairs (a b : List Str) (i f : Nat) : List (Nat × Nat) := prs a b (a.length - i) i f
theorem pairs_end (a b : List Str) (i f : Nat) (h : a.length ≤ i) : pairs a b i f = [] := by
  unfold pairs; rw [show a.length - i = 0 by omega, prs]
theorem pairs_none {a b : List Str} {i f : Nat} (hi : i < a.length) (h : idx (st a i) (b.drop f) = none) : pairs a b i f = pairs a b (i + 1) f := by
  unfold pairs; rw [show a.length - i = (a.length - (i + 1)) + 1 by omega, prs, h]
theorem pairs_yes {a b : List Str} {i f k : Nat} (hi : i < a.length) (h : idx (st a i) (b.drop f) = some k) (ht : 1 + T a b (i + 1) (f + k + 1) = T a b i f) : pairs a b i f = (i, f + k) :: pairs a b (i + 1) (f + k + 1) := by
  unfold pairs; rw [show a.length - i = (a.length - (i + 1)) + 1 by omega, prs, h]
  simp only [ht, if_true]
theorem pairs_no {a b : List Str} {i f k : Nat} (hi : i < a.length) (h : idx (st a i) (b.drop f) = some k) (ht : 1 + T a b (i + 1) (f + k + 1) ≠ T a b i f) : pairs a b i f = pairs a b (i + 1) f := by
  unfold pairs; rw [show a.length - i = (a.length - (i + 1)) + 1 by omega, prs, h]
  simp only [ht, if_false]
theorem T_no {a b : List Str} {i f k : Nat} (hi : i < a.length) (h : idx (st a i) (b.drop f) = some k) (ht : 1 + T a b (i + 1) (f + k + 1) ≠ T a b i f) : T a b i f = T a b (i + 1) f := by
  have := T_first hi h
  omega
/-- An induction over the index in the first list. -/
theorem ind_i {a : List Str} {P : Nat → Prop} (h0 : ∀ i, a.length ≤ i → P i) (h1 : ∀ i, i < a.length → P (i + 1) → P i) : ∀ i, P i := by
  have aux : ∀ n i, a.length - i ≤ n → P i := by
    intro n
    induction n with
    | zero => exact fun i h => h0 i (by omega)
    | succ n ih =>
      intro i h
      by_cases hf : a.length ≤ i
      · exact h0 i hf
      · exact h1 i (by omega) (ih _ (by omega))
  exact fun i => aux _ i (Nat.le_refl _)
theorem pairs_len (a b : List Str) : ∀ i f, (pairs a b i f).length = T a b i f := by
  refine ind_i (a := a) (P := fun i => ∀ f, (pairs a b i f).length = T a b i f) (fun i h f => ?_) (fun i h ih f => ?_)
  · rw [pairs_end a b i f h, T_end a b i f h]; rfl
  · cases hi : idx (st a i) (b.drop f) with
    | none => rw [pairs_none h hi, ih, T_none h hi]
    | some k =>
      by_cases ht : 1 + T a b (i + 1) (f + k + 1) = T a b i f
      · rw [pairs_yes h hi ht, List.length_cons, ih]; omega
      · rw [pairs_no h hi ht, ih, T_no h hi ht]
theorem idx_drop {b : List Str} {x : Str} {f k : Nat} (h : idx x (b.drop f) = some k) : f + k < b.length ∧ st b (f + k) = x ∧ ∀ j, f ≤ j → j < f + k → st b j ≠ x := by
  obtain ⟨h1, h2, h3⟩ := idx_some h
  rw [List.length_drop] at h1
  have hlt : f + k < b.length := by omega
  refine ⟨hlt, ?_, fun j hj1 hj2 hx => ?_⟩
  · rw [List.getElem?_drop, List.getElem?_eq_getElem hlt] at h2
    rw [st_eq hlt]
    injection h2
  · refine h3 (j - f) (by omega) ?_
    rw [List.getElem?_drop, show f + (j - f) = j by omega, List.getElem?_eq_getElem (by omega), ← st_eq (by omega), hx]
theorem idx_drop_of {b : List Str} {x : Str} {f y : Nat} (hf : f ≤ y) (hy : y < b.length) (hx : st b y = x) (hn : ∀ j, f ≤ j → j < y → st b j ≠ x) : idx x (b.drop f) = some (y - f) := by
  refine idx_of ?_ fun j hj h => ?_
  · rw [List.getElem?_drop, show f + (y - f) = y by omega, List.getElem?_eq_getElem hy, ← st_eq hy, hx]
  · rw [List.getElem?_drop, List.getElem?_eq_getElem (by omega), ← st_eq (by omega)] at h
    exact hn (f + j) (by omega) (by omega) (by injection h)
/-- Where the reference finds no second index for a first one, the pairs go on behind it. -/
theorem pairs_skip {a b : List Str} {x k : Nat} (hx : x < a.length) (hno : ∀ y, k ≤ y → y < b.length → ¬ (st a x = st b y ∧ T a b (x + 1) (y + 1) + 1 = T a b x k)) : pairs a b x k = pairs a b (x + 1) k ∧ T a b x k = T a b (x + 1) k := by
  cases hi : idx (st a x) (b.drop k) with
  | none => exact ⟨pairs_none hx hi, T_none hx hi⟩
  | some j =>
    obtain ⟨h1, h2, _⟩ := idx_drop hi
    have ht : 1 + T a b (x + 1) (k + j + 1) ≠ T a b x k := fun h => hno (k + j) (by omega) h1 ⟨h2.symm, by omega⟩
    exact ⟨pairs_no hx hi ht, T_no hx hi ht⟩
/-- Where it finds one, it is the pairs' own. -/
theorem pairs_take {a b : List Str} {x k y : Nat} (hx : x < a.length) (hk : k ≤ y) (hy : y < b.length) (he : st a x = st b y) (ht : T a b (x + 1) (y + 1) + 1 = T a b x k) (hno : ∀ j, k ≤ j → j < y → ¬ (st a x = st b j ∧ T a b (x + 1) (j + 1) + 1 = T a b x k)) : pairs a b x k = (x, y) :: pairs a b (x + 1) (y + 1) := by
  cases hi : idx (st a x) (b.drop k) with
  | none =>
    exfalso
    have hn := idx_none hi (y - k)
    rw [List.getElem?_drop, show k + (y - k) = y by omega, List.getElem?_eq_getElem hy, ← st_eq hy, he] at hn
    exact hn rfl
  | some j =>
    obtain ⟨h1, h2, h3⟩ := idx_drop hi
    have hle : k + j ≤ y := by
      rcases Nat.lt_or_ge y (k + j) with h | h
      · exact absurd he.symm (h3 y hk h)
      · exact h
    have hf := T_first hx hi
    have hm := T_mono a b (x + 1) (m := k + j + 1) (n := y + 1) (by omega)
    have htt : 1 + T a b (x + 1) (k + j + 1) = T a b x k := by omega
    have hey : k + j = y := by
      rcases Nat.lt_or_ge (k + j) y with h | h
      · exact absurd ⟨h2.symm, by omega⟩ (hno (k + j) (by omega) h)
      · omega
    rw [pairs_yes hx hi htt, hey]
theorem pairs_zero (a b : List Str) (i f : Nat) (h : T a b i f = 0) : pairs a b i f = [] := List.eq_nil_of_length_eq_zero (by rw [pairs_len, h])

/-- A chain of pairs: increasing in both, in bounds, with equal words. -/
def Chain (a b : List Str) : Nat → Nat → List (Nat × Nat) → Prop
  | _, _, [] => True
  | i, f, p :: r => i ≤ p.1 ∧ f ≤ p.2 ∧ p.1 < a.length ∧ p.2 < b.length ∧ st a p.1 = st b p.2 ∧ Chain a b (p.1 + 1) (p.2 + 1) r
theorem Chain.low {a b : List Str} : ∀ {r : List (Nat × Nat)} {i f i' f' : Nat}, Chain a b i f r → i' ≤ i → f' ≤ f → Chain a b i' f' r
  | [], _, _, _, _, _, _, _ => trivial
  | _ :: _, _, _, _, _, h, h1, h2 => ⟨Nat.le_trans h1 h.1, Nat.le_trans h2 h.2.1, h.2.2⟩
theorem pairs_chain (a b : List Str) : ∀ i f, Chain a b i f (pairs a b i f) := by
  refine ind_i (a := a) (P := fun i => ∀ f, Chain a b i f (pairs a b i f)) (fun i h f => ?_) (fun i h ih f => ?_)
  · rw [pairs_end a b i f h]; trivial
  · cases hi : idx (st a i) (b.drop f) with
    | none => rw [pairs_none h hi]; exact (ih f).low (by omega) (Nat.le_refl _)
    | some k =>
      obtain ⟨h1, h2, _⟩ := idx_drop hi
      by_cases ht : 1 + T a b (i + 1) (f + k + 1) = T a b i f
      · rw [pairs_yes h hi ht]; exact ⟨Nat.le_refl _, by omega, h, h1, h2.symm, ih _⟩
      · rw [pairs_no h hi ht]; exact (ih f).low (by omega) (Nat.le_refl _)

/-! Distance. -/
theorem lcs_self : ∀ a : List Str, lcs a a = a.length
  | [] => lcs_nil _
  | x :: a => by rw [lcs_same, lcs_self a]; rfl
theorem eq_of_full : ∀ {a b : List Str}, lcs a b = a.length → a.length = b.length → a = b
  | [], [], _, _ => rfl
  | [], _ :: _, _, h => by simp at h
  | _ :: _, [], _, h => by simp at h
  | x :: a, y :: b, h, hl => by
    simp only [List.length_cons] at h hl
    by_cases e : x = y
    · subst e
      rw [lcs_same] at h
      rw [eq_of_full (a := a) (b := b) (by omega) (by omega)]
    · rw [lcs_other e] at h
      have := len_left a (y :: b)
      have := len_right (x :: a) b
      omega
theorem both_le : ∀ (n : Nat) (a b c : List Str), a.length + b.length + c.length ≤ n → lcs a b + lcs b c ≤ b.length + lcs a c
  | _, [], b, c, _ => by rw [lcs_nil, lcs_nil]; have := len_left b c; omega
  | _, _ :: _, [], c, _ => by rw [lcs_nil, lcs_nil']; omega
  | _, x :: a, y :: b, [], _ => by rw [lcs_nil', lcs_nil']; have := len_right (x :: a) (y :: b); omega
  | 0, _ :: _, _ :: _, _ :: _, h => absurd h (by simp)
  | n + 1, x :: a, y :: b, z :: c, h => by
    simp only [List.length_cons] at h
    by_cases e1 : x = y
    · subst e1
      by_cases e2 : x = z
      · subst e2
        have := both_le n a b c (by omega)
        rw [lcs_same, lcs_same, lcs_same, List.length_cons]
        omega
      · have i1 := both_le n (x :: a) (x :: b) c (by simp; omega)
        have i2 := both_le n a b (z :: c) (by simp; omega)
        rw [lcs_same] at i1 ⊢
        rw [lcs_other e2, lcs_other e2]
        simp only [List.length_cons] at i1 ⊢
        omega
    · have i1 := both_le n a (y :: b) (z :: c) (by simp; omega)
      have i2 := both_le n (x :: a) b (z :: c) (by simp; omega)
      have l1 := left_le x a (z :: c)
      have l2 := left_ge y b (z :: c)
      rw [lcs_other e1]
      simp only [List.length_cons] at i1 ⊢
      omega
/-- The distance. -/
def far (a b : List Str) : Int := (a.length : Int) + b.length - 2 * (lcs a b : Nat)
theorem far_comm (a b : List Str) : far a b = far b a := by unfold far; rw [comm a b]; omega
theorem far_tri (a b c : List Str) : far a c ≤ far a b + far b c := by
  have := both_le _ a b c (Nat.le_refl _)
  unfold far; omega
theorem far_self (a : List Str) : far a a = 0 := by unfold far; rw [lcs_self]; omega
theorem far_zero (a b : List Str) : far a b = 0 ↔ a = b := by
  constructor
  · intro h
    unfold far at h
    have := len_left a b
    have := len_right a b
    exact eq_of_full (by omega) (by omega)
  · rintro rfl; exact far_self a
theorem lcs_app (p a b : List Str) : lcs (p ++ a) (p ++ b) = p.length + lcs a b := by
  induction p with
  | nil => simp
  | cons x p ih => rw [List.cons_append, List.cons_append, lcs_same, ih, List.length_cons]; omega
theorem app_le' (p a b : List Str) : lcs a b ≤ lcs (p ++ a) b := by rw [comm a b, comm (p ++ a) b]; exact app_le p b a
end Lcs
end Go.Proofs.YtcacnelhppakoaaDoor
