/-
  The plain mathematics of longest increasing subsequences. It imports nothing of the program.
-/
namespace Go.Proofs.Ytklegjmlpaimpaa
namespace Rise

/-- The length of the longest increasing subsequence of a list all of whose integers exceed a given one. -/
def bst : List Int → Int → Nat
  | [], _ => 0
  | y :: ys, x => max (if x < y then bst ys y + 1 else 0) (bst ys x)
/-- The k-th integer. -/
def at_ (l : List Int) (k : Nat) : Int := l.getD k 0
theorem at_eq {l : List Int} {k : Nat} (hk : k < l.length) : at_ l k = l[k] := by
  unfold at_
  rw [List.getD, List.getElem?_eq_getElem hk]
  rfl
theorem drop_at {l : List Int} {k : Nat} (hk : k < l.length) : l.drop k = at_ l k :: l.drop (k + 1) := by
  rw [at_eq hk]
  exact List.drop_eq_getElem_cons hk
/-- The best continuation behind an index k of what begins at i. -/
def B (l : List Int) (i k : Nat) : Nat := bst (l.drop k) (at_ l i)
/-- The length of the longest increasing subsequence that begins at an index. -/
def R (l : List Int) (i : Nat) : Nat := B l i (i + 1) + 1
theorem B_end (l : List Int) (i k : Nat) (h : l.length ≤ k) : B l i k = 0 := by
  unfold B; rw [List.drop_of_length_le h]; rfl
theorem B_up {l : List Int} {i k : Nat} (hk : k < l.length) (h : at_ l i < at_ l k) : B l i k = max (R l k) (B l i (k + 1)) := by
  unfold B R B; rw [drop_at hk, bst, if_pos h]
theorem B_no {l : List Int} {i k : Nat} (hk : k < l.length) (h : at_ l k ≤ at_ l i) : B l i k = B l i (k + 1) := by
  unfold B; rw [drop_at hk, bst, if_neg (by omega)]; omega
theorem R_pos (l : List Int) (i : Nat) : 1 ≤ R l i := by unfold R; omega
theorem B_le (l : List Int) (i : Nat) : ∀ n k, l.length - k ≤ n → B l i k ≤ l.length - k := by
  have key : ∀ (l : List Int) (x : Int), bst l x ≤ l.length := by
    intro l
    induction l with
    | nil => intro x; exact Nat.le_refl _
    | cons y ys ih =>
      intro x
      have h1 := ih x
      have h2 := ih y
      unfold bst
      simp only [List.length_cons]
      split <;> omega
  intro n k _
  have := key (l.drop k) (at_ l i)
  rw [List.length_drop] at this
  exact this
theorem R_le (l : List Int) (i : Nat) (h : i < l.length) : R l i ≤ l.length := by
  have := B_le l i _ (i + 1) (Nat.le_refl _)
  unfold R; omega
/-- A longer one begins ahead of a greater integer. -/
theorem B_ge {l : List Int} {i k : Nat} (hk : k < l.length) (h : at_ l i < at_ l k) : ∀ n m, k - m = n → m ≤ k → R l k ≤ B l i m
  | 0, m, e, hm => by
    obtain rfl : m = k := by omega
    rw [B_up hk h]; omega
  | n + 1, m, e, hm => by
    have ih := B_ge hk h n (m + 1) (by omega) (by omega)
    by_cases hh : at_ l i < at_ l m
    · rw [B_up (by omega) hh]; omega
    · rw [B_no (by omega) (by omega)]; exact ih
theorem R_ge {l : List Int} {i k : Nat} (hik : i < k) (hk : k < l.length) (h : at_ l i < at_ l k) : R l k + 1 ≤ R l i := by
  have := B_ge hk h _ (i + 1) rfl (by omega)
  show _ ≤ B l i (i + 1) + 1
  omega
/-- Where the best continuation has an element, it begins somewhere. -/
theorem B_mem (l : List Int) (i : Nat) : ∀ n k, l.length - k = n → 0 < B l i k → ∃ j, k ≤ j ∧ j < l.length ∧ at_ l i < at_ l j ∧ R l j = B l i k
  | 0, k, e, h => by rw [B_end l i k (by omega)] at h; omega
  | n + 1, k, e, h => by
    have hk : k < l.length := by omega
    by_cases hh : at_ l i < at_ l k
    · rw [B_up hk hh] at h ⊢
      by_cases hm : B l i (k + 1) ≤ R l k
      · exact ⟨k, Nat.le_refl _, hk, hh, by omega⟩
      · obtain ⟨j, h1, h2, h3, h4⟩ := B_mem l i n (k + 1) (by omega) (by omega)
        exact ⟨j, by omega, h2, h3, by omega⟩
    · rw [B_no hk (by omega)] at h ⊢
      obtain ⟨j, h1, h2, h3, h4⟩ := B_mem l i n (k + 1) (by omega) h
      exact ⟨j, by omega, h2, h3, h4⟩
/-- The greatest length among the first k. -/
def mx (l : List Int) : Nat → Nat
  | 0 => 0
  | k + 1 => max (mx l k) (R l k)
theorem mx_ge (l : List Int) : ∀ (k j : Nat), j < k → R l j ≤ mx l k
  | k + 1, j, h => by
    unfold mx
    by_cases e : j = k
    · subst e; omega
    · have := mx_ge l k j (by omega); omega
theorem mx_mem (l : List Int) : ∀ k, 0 < k → ∃ j, j < k ∧ R l j = mx l k
  | k + 1, _ => by
    unfold mx
    by_cases h : mx l k ≤ R l k
    · exact ⟨k, by omega, by omega⟩
    · have hk : 0 < k := by
        rcases Nat.eq_zero_or_pos k with rfl | h0
        · exact absurd (Nat.zero_le _) h
        · exact h0
      obtain ⟨j, h1, h2⟩ := mx_mem l k hk
      exact ⟨j, by omega, by omega⟩
theorem mx_le (l : List Int) : ∀ k, k ≤ l.length → mx l k ≤ l.length
  | 0, _ => Nat.zero_le _
  | k + 1, h => by
    have h1 := mx_le l k (by omega)
    have h2 := R_le l k h
    unfold mx
    exact Nat.max_le.2 ⟨h1, h2⟩
/-- The indices that are found from the front; the first number bounds the steps. -/
def sl (l : List Int) : Nat → Nat → Nat → List Nat
  | 0, _, _ => []
  | g + 1, i, n => if R l i = n then i :: sl l g (i + 1) (n - 1) else sl l g (i + 1) n
def sel (l : List Int) (i n : Nat) : List Nat := sl l (l.length - i) i n
theorem sel_end (l : List Int) (i n : Nat) (h : l.length ≤ i) : sel l i n = [] := by
  unfold sel; rw [show l.length - i = 0 by omega, sl]
theorem sel_yes {l : List Int} {i n : Nat} (hi : i < l.length) (h : R l i = n) : sel l i n = i :: sel l (i + 1) (n - 1) := by
  unfold sel; rw [show l.length - i = (l.length - (i + 1)) + 1 by omega, sl, if_pos h]
theorem sel_no {l : List Int} {i n : Nat} (hi : i < l.length) (h : R l i ≠ n) : sel l i n = sel l (i + 1) n := by
  unfold sel; rw [show l.length - i = (l.length - (i + 1)) + 1 by omega, sl, if_neg h]
theorem sel_zero (l : List Int) : ∀ n i, l.length - i = n → sel l i 0 = []
  | 0, i, h => sel_end l i 0 (by omega)
  | n + 1, i, h => by
    rw [sel_no (by omega) (by have := R_pos l i; omega)]
    exact sel_zero l n (i + 1) (by omega)
theorem sel_len (l : List Int) : ∀ m n i, l.length - i = m → (n = 0 ∨ ∃ k, i ≤ k ∧ k < l.length ∧ R l k = n) → (sel l i n).length = n
  | 0, n, i, e, h => by
    rcases h with rfl | ⟨k, h1, h2, _⟩
    · rw [sel_end l i 0 (by omega)]; rfl
    · omega
  | m + 1, n, i, e, h => by
    rcases h with rfl | ⟨k, h1, h2, h3⟩
    · rw [sel_zero l _ i rfl]; rfl
    · by_cases hi : R l i = n
      · have hp := R_pos l i
        rw [sel_yes (by omega) hi, List.length_cons, sel_len l m (n - 1) (i + 1) (by omega), ← hi]
        · omega
        · rcases Nat.eq_zero_or_pos (n - 1) with h0 | h0
          · exact Or.inl h0
          · obtain ⟨j, j1, j2, _, j4⟩ := B_mem l i _ (i + 1) rfl (by unfold R at hi; omega)
            exact Or.inr ⟨j, j1, j2, by unfold R at hi; omega⟩
      · rw [sel_no (by omega) hi]
        exact sel_len l m n (i + 1) (by omega) (Or.inr ⟨k, by
          rcases Nat.lt_or_ge i k with h | h
          · omega
          · obtain rfl : i = k := by omega
            exact absurd h3 hi, h2, h3⟩)
/-- The longest increasing subsequence. -/
def ris (l : List Int) : List Nat := sel l 0 (mx l l.length)
theorem ris_len (l : List Int) : (ris l).length = mx l l.length := by
  refine sel_len l _ _ 0 rfl ?_
  rcases Nat.eq_zero_or_pos l.length with h | h
  · exact Or.inl (by rw [h]; rfl)
  · obtain ⟨j, h1, h2⟩ := mx_mem l l.length h
    exact Or.inr ⟨j, by omega, h1, h2⟩
/-- The first one behind that can continue exceeds the integer found last. -/
theorem rise {l : List Int} {p i n : Nat} (hn : 0 < n) (hp : R l p = n + 1) (hr : R l i = n) (hno : ∀ j, p < j → j < i → R l j ≠ n) : at_ l p < at_ l i := by
  obtain ⟨k, k1, k2, k3, k4⟩ := B_mem l p _ (p + 1) rfl (by unfold R at hp; omega)
  have hk : R l k = n := by unfold R at hp; omega
  have hik : i ≤ k := by
    rcases Nat.lt_or_ge k i with h | h
    · exact absurd hk (hno k (by omega) h)
    · exact h
  rcases Nat.lt_or_ge i k with h | h
  · by_cases hc : at_ l p < at_ l i
    · exact hc
    · have := R_ge h k2 (by omega)
      omega
  · obtain rfl : i = k := by omega
    exact k3
/-- Indices that increase, with integers that increase. -/
def Inc (l : List Int) : List Nat → Prop
  | [] => True
  | [a] => a < l.length
  | a :: b :: r => a < b ∧ at_ l a < at_ l b ∧ a < l.length ∧ Inc l (b :: r)
theorem Inc.head {l : List Int} {a : Nat} {r : List Nat} (h : Inc l (a :: r)) : a < l.length := by
  cases r with
  | nil => exact h
  | cons b r => exact h.2.2.1
theorem Inc.len {l : List Int} : ∀ {r : List Nat} {a : Nat}, Inc l (a :: r) → r.length + 1 ≤ R l a
  | [], a, _ => R_pos l a
  | b :: r, a, h => by
    have ih := Inc.len h.2.2.2
    have := R_ge h.1 h.2.2.2.head h.2.1
    simp only [List.length_cons]
    omega
theorem Inc.le {l : List Int} {r : List Nat} (h : Inc l r) : r.length ≤ (ris l).length := by
  rw [ris_len]
  cases r with
  | nil => simp
  | cons a r =>
    have h1 := h.len
    have h2 := mx_ge l l.length a h.head
    simp only [List.length_cons]
    omega
theorem Inc.snoc {l : List Int} : ∀ {r : List Nat} {a b : Nat}, Inc l (r ++ [a]) → a < b → at_ l a < at_ l b → b < l.length → Inc l (r ++ [a] ++ [b])
  | [], _, _, h, h1, h2, h3 => ⟨h1, h2, h, h3⟩
  | [_], _, _, h, h1, h2, h3 => ⟨h.1, h.2.1, h.2.2.1, h1, h2, h.2.2.2, h3⟩
  | _ :: d :: r, _, _, h, h1, h2, h3 => ⟨h.1, h.2.1, h.2.2.1, Inc.snoc (r := d :: r) h.2.2.2 h1 h2 h3⟩
end Rise
end Go.Proofs.Ytklegjmlpaimpaa
