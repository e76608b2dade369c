/-
  The plain mathematics of occurrences of a pattern in a sequence: finding, choosing and replacing. It imports nothing of the program.
-/
namespace Go.Proofs.YtphehcbjegfifaaDoor
namespace Occ

abbrev Str := ByteArray

/-- Does the pattern stand at an index of the list? -/
def stands (l p : List Str) (i : Nat) : Bool := decide (i + p.length ≤ l.length ∧ (l.drop i).take p.length = p)
/-- The occurrences from an index on; the first number bounds the steps. -/
def scan (l p : List Str) : Nat → Nat → List Nat
  | 0, _ => []
  | f + 1, i => if stands l p i then i :: scan l p f (i + p.length) else scan l p f (i + 1)
/-- The occurrences from an index on. -/
def occ (l p : List Str) (i : Nat) : List Nat := if p = [] then [] else scan l p (l.length - i) i
theorem stands_lt {l p : List Str} {i : Nat} (h : stands l p i = true) : i + p.length ≤ l.length := by
  unfold stands at h
  simpa using (of_decide_eq_true h).1
theorem stands_far {l p : List Str} {i : Nat} (h : l.length < i + p.length) : stands l p i = false := by
  unfold stands
  rw [decide_eq_false_iff_not]
  intro ⟨h1, _⟩
  omega
theorem scan_nil (l p : List Str) (hp : p ≠ []) : ∀ f i, l.length < i + p.length → scan l p f i = []
  | 0, _, _ => rfl
  | f + 1, i, h => by
    rw [scan, stands_far h]
    simp only [Bool.false_eq_true, if_false]
    exact scan_nil l p hp f (i + 1) (by omega)
theorem scan_fuel (l p : List Str) (hp : p ≠ []) : ∀ f g i, l.length - i ≤ f → l.length - i ≤ g → scan l p f i = scan l p g i
  | 0, g, i, hf, _ => by
    have : 0 < p.length := List.length_pos_iff.2 hp
    rw [scan_nil l p hp g i (by omega), scan]
  | f + 1, 0, i, _, hg => by
    have : 0 < p.length := List.length_pos_iff.2 hp
    rw [scan_nil l p hp (f + 1) i (by omega), scan]
  | f + 1, g + 1, i, hf, hg => by
    have : 0 < p.length := List.length_pos_iff.2 hp
    rw [scan, scan]
    split
    · rw [scan_fuel l p hp f g (i + p.length) (by omega) (by omega)]
    · rw [scan_fuel l p hp f g (i + 1) (by omega) (by omega)]
theorem occ_nil (l : List Str) (i : Nat) : occ l [] i = [] := by simp [occ]
theorem occ_far {l p : List Str} {i : Nat} (hp : p ≠ []) (h : l.length < i + p.length) : occ l p i = [] := by
  rw [occ, if_neg hp, scan_nil l p hp _ i h]
theorem occ_yes {l p : List Str} {i : Nat} (hp : p ≠ []) (h : stands l p i = true) : occ l p i = i :: occ l p (i + p.length) := by
  have hl := stands_lt h
  have : 0 < p.length := List.length_pos_iff.2 hp
  rw [occ, occ, if_neg hp, if_neg hp, show l.length - i = (l.length - i - 1) + 1 by omega, scan, if_pos h]
  rw [scan_fuel l p hp (l.length - i - 1) (l.length - (i + p.length)) _ (by omega) (by omega)]
theorem occ_no {l p : List Str} {i : Nat} (hp : p ≠ []) (h : stands l p i = false) : occ l p i = occ l p (i + 1) := by
  rw [occ, occ, if_neg hp, if_neg hp]
  by_cases hi : i < l.length
  · rw [show l.length - i = (l.length - (i + 1)) + 1 by omega, scan, h]
    simp
  · rw [show l.length - i = 0 by omega, show l.length - (i + 1) = 0 by omega, scan, scan]
/-- A property of the occurrences, shown from behind. -/
theorem occ_ind {l p : List Str} (hp : p ≠ []) {P : Nat → Prop} (h0 : ∀ i, l.length < i + p.length → P i) (h1 : ∀ i, stands l p i = true → P (i + p.length) → P i) (h2 : ∀ i, i + p.length ≤ l.length → stands l p i = false → P (i + 1) → P i) : ∀ i, P i := by
  have hlen : 0 < p.length := List.length_pos_iff.2 hp
  have aux : ∀ n i, l.length + 1 - i ≤ n → P i := by
    intro n
    induction n with
    | zero => exact fun i h => h0 i (by omega)
    | succ n ih =>
      intro i h
      by_cases hf : l.length < i + p.length
      · exact h0 i hf
      · cases hs : stands l p i with
        | true => exact h1 i hs (ih _ (by omega))
        | false => exact h2 i (by omega) hs (ih _ (by omega))
  exact fun i => aux _ i (Nat.le_refl _)
/-- Increasing, apart by the pattern's length, and matching. -/
def Apart (l p : List Str) : Nat → List Nat → Prop
  | _, [] => True
  | lo, a :: r => lo ≤ a ∧ stands l p a = true ∧ Apart l p (a + p.length) r
theorem Apart.low {l p : List Str} : ∀ {r : List Nat} {lo lo' : Nat}, Apart l p lo r → lo' ≤ lo → Apart l p lo' r
  | [], _, _, _, _ => trivial
  | _ :: _, _, _, h, hl => ⟨Nat.le_trans hl h.1, h.2⟩
theorem occ_apart (l p : List Str) (i : Nat) : Apart l p i (occ l p i) := by
  by_cases hp : p = []
  · subst hp
    rw [occ_nil]
    trivial
  · refine occ_ind (l := l) hp (P := fun i => Apart l p i (occ l p i)) (fun i h => ?_) (fun i h ih => ?_) (fun i _ h ih => ?_) i
    · rw [occ_far hp h]; trivial
    · rw [occ_yes hp h]; exact ⟨Nat.le_refl _, h, ih⟩
    · rw [occ_no hp h]; exact ih.low (by omega)
theorem Apart.len {l p : List Str} (hp : p ≠ []) : ∀ {r : List Nat} {lo : Nat}, Apart l p lo r → lo ≤ l.length → r.length ≤ l.length - lo
  | [], _, _, _ => by simp
  | a :: r, lo, h, hlo => by
    have hlen : 0 < p.length := List.length_pos_iff.2 hp
    have h1 := stands_lt h.2.1
    have h2 := Apart.len hp h.2.2 h1
    have := h.1
    simp only [List.length_cons]
    omega
theorem occ_len (l p : List Str) : (occ l p 0).length ≤ l.length := by
  by_cases hp : p = []
  · subst hp; simp [occ_nil]
  · have := (occ_apart l p 0).len hp (Nat.zero_le _)
    omega

/-- The list from an index on, with something in the place of the pattern at given indices. -/
def put (l : List Str) (m : Nat) (by_ : List Str) : Nat → List Nat → List Str
  | i, [] => l.drop i
  | i, a :: r => (l.take a).drop i ++ (by_ ++ put l m by_ (a + m) r)
/-- Which of the occurrences are meant. -/
def chosen (L : List Nat) (nth : Int) : List Nat := if nth = 0 then L else if nth < 1 then [] else (L.drop (nth.toNat - 1)).take 1
/-- Replacing. -/
def repl (l p by_ : List Str) (nth : Int) : List Str × Nat := (put l p.length by_ 0 (chosen (occ l p 0) nth), (chosen (occ l p 0) nth).length)
/-- Inserting. -/
def insr (l p by_ : List Str) (nth : Int) : List Str × Nat := if p = [] ∧ nth = 0 then (by_ ++ l, 1) else repl l p (p ++ by_) nth

theorem put_step (l : List Str) (m : Nat) (by_ : List Str) (i : Nat) (r : List Nat) (hi : i < l.length) (h : ∀ a ∈ r.head?, i < a) : put l m by_ i r = l[i] :: put l m by_ (i + 1) r := by
  cases r with
  | nil => rw [put, put, List.drop_eq_getElem_cons hi]
  | cons a r =>
    have ha := h a (by simp)
    rw [put, put]
    rw [List.drop_eq_getElem_cons (l := l.take a) (by rw [List.length_take]; omega)]
    simp
theorem put_here (l : List Str) (m : Nat) (by_ : List Str) (i : Nat) (r : List Nat) (hi : i ≤ l.length) : put l m by_ i (i :: r) = by_ ++ put l m by_ (i + m) r := by
  rw [put, List.drop_of_length_le (by rw [List.length_take]; omega), List.nil_append]
theorem put_end (l : List Str) (m : Nat) (by_ : List Str) (i : Nat) (hi : l.length ≤ i) : put l m by_ i [] = [] := by
  rw [put, List.drop_of_length_le hi]
theorem put_len (l : List Str) (m : Nat) (by_ : List Str) : ∀ (r : List Nat) (i : Nat) , (put l m by_ i r).length ≤ (r.length + 1) * l.length + r.length * by_.length
  | [], i => by simp [put]
  | a :: r, i => by
    have := put_len l m by_ r (a + m)
    simp only [put, List.length_append, List.length_drop, List.length_take, List.length_cons]
    have e1 : (r.length + 1 + 1) * l.length = (r.length + 1) * l.length + l.length := by rw [Nat.add_mul (r.length + 1) 1, Nat.one_mul]
    have e2 : (r.length + 1) * by_.length = r.length * by_.length + by_.length := by rw [Nat.add_mul, Nat.one_mul]
    omega
theorem chosen_zero (L : List Nat) : chosen L 0 = L := by simp [chosen]
theorem chosen_len (L : List Nat) (nth : Int) : (chosen L nth).length ≤ L.length := by
  unfold chosen
  split
  · exact Nat.le_refl _
  · split
    · simp
    · rw [List.length_take, List.length_drop]; omega
/-- Which of the occurrences behind the first k are meant. -/
def left (L : List Nat) (nth : Int) (k : Nat) : List Nat := if nth = 0 then L.drop k else if nth < (k : Int) + 1 then [] else (L.drop (nth.toNat - 1)).take 1
theorem left_zero (L : List Nat) (nth : Int) : left L nth 0 = chosen L nth := by
  unfold left chosen
  simp
theorem left_take (L : List Nat) (nth : Int) (k : Nat) (hk : k < L.length) (h : nth = 0 ∨ nth = (k : Int) + 1) : left L nth k = L[k] :: left L nth (k + 1) := by
  unfold left
  rcases h with h | h
  · subst h
    simp only [if_true]
    exact List.drop_eq_getElem_cons hk
  · have h0 : nth ≠ 0 := by omega
    rw [if_neg h0, if_neg h0, if_neg (by omega), if_pos (by omega), show nth.toNat - 1 = k by omega, List.drop_eq_getElem_cons hk]
    rfl
theorem left_skip (L : List Nat) (nth : Int) (k : Nat) (h0 : nth ≠ 0) (h : nth ≠ (k : Int) + 1) : left L nth k = left L nth (k + 1) := by
  unfold left
  rw [if_neg h0, if_neg h0]
  by_cases hk : nth < (k : Int) + 1
  · rw [if_pos hk, if_pos (by omega)]
  · rw [if_neg hk, if_neg (by omega)]
theorem left_end (L : List Nat) (nth : Int) : left L nth L.length = [] := by
  unfold left
  split
  · simp
  · split
    · rfl
    · rw [List.drop_of_length_le (by omega)]; rfl

/-! Replacing a pattern by itself; replacing one at a time. -/
theorem stands_eq {l p : List Str} {i : Nat} (h : stands l p i = true) : (l.drop i).take p.length = p := by
  unfold stands at h
  simpa using (of_decide_eq_true h).2
theorem put_self {l p : List Str} : ∀ (r : List Nat) (i : Nat), Apart l p i r → put l p.length p i r = l.drop i
  | [], _, _ => rfl
  | a :: r, i, h => by
    have ih := put_self r (a + p.length) h.2.2
    have hl := stands_lt h.2.1
    have he := stands_eq h.2.1
    rw [put, ih]
    conv => lhs; rw [← he]
    have h1 : l.drop i = (l.drop i).take (a - i) ++ (l.drop i).drop (a - i) := (List.take_append_drop _ _).symm
    have h2 : l.drop a = (l.drop a).take p.length ++ (l.drop a).drop p.length := (List.take_append_drop _ _).symm
    have ha := h.1
    rw [h1, List.drop_drop, show i + (a - i) = a by omega, List.drop_take]
    congr 1
    rw [List.length_take, List.length_drop, Nat.min_eq_left (by omega)]
    conv => rhs; rw [h2]
    rw [List.drop_drop]
theorem repl_self (l p : List Str) : repl l p p 0 = (l, (occ l p 0).length) := by
  unfold repl
  rw [chosen_zero, put_self _ 0 (occ_apart l p 0)]
  rfl
/-- Two lists that begin alike have the same occurrences there. -/
theorem stands_alike {l l' p : List Str} {m i : Nat} (h : l.take m = l'.take m) (hl : m ≤ l.length) (hl' : m ≤ l'.length) (hi : i + p.length ≤ m) : stands l p i = stands l' p i := by
  have e : ∀ L : List Str, (L.drop i).take p.length = ((L.take m).drop i).take p.length := by
    intro L
    rw [List.drop_take, List.take_take, Nat.min_eq_left (by omega)]
  unfold stands
  rw [e l, e l', h]
  congr 1
  simp only [eq_iff_iff, and_congr_left_iff]
  intro _
  omega
/-- What the first of the occurrences says. -/
theorem occ_head {l p : List Str} (hp : p ≠ []) : ∀ (i a : Nat) (r : List Nat), occ l p i = a :: r → i ≤ a ∧ stands l p a = true ∧ (∀ j, i ≤ j → j < a → stands l p j = false) ∧ r = occ l p (a + p.length) := by
  refine occ_ind (l := l) hp (P := fun i => ∀ (a : Nat) (r : List Nat), occ l p i = a :: r → i ≤ a ∧ stands l p a = true ∧ (∀ j, i ≤ j → j < a → stands l p j = false) ∧ r = occ l p (a + p.length)) (fun i h a r ho => ?_) (fun i h _ a r ho => ?_) (fun i _ h ih a r ho => ?_)
  · rw [occ_far hp h] at ho; cases ho
  · rw [occ_yes hp h] at ho
    obtain ⟨rfl, rfl⟩ := List.cons.inj ho
    exact ⟨Nat.le_refl _, h, fun j h1 h2 => absurd h1 (by omega), rfl⟩
  · rw [occ_no hp h] at ho
    obtain ⟨h1, h2, h3, h4⟩ := ih a r ho
    refine ⟨by omega, h2, fun j hj1 hj2 => ?_, h4⟩
    by_cases e : j = i
    · rw [e]; exact h
    · exact h3 j (by omega) hj2
theorem occ_of {l p : List Str} (hp : p ≠ []) (a : Nat) (ha : stands l p a = true) : ∀ (n i : Nat), a - i = n → i ≤ a → (∀ j, i ≤ j → j < a → stands l p j = false) → occ l p i = a :: occ l p (a + p.length)
  | 0, i, h, hi, _ => by
    obtain rfl : i = a := by omega
    exact occ_yes hp ha
  | n + 1, i, h, hi, hn => by
    rw [occ_no hp (hn i (Nat.le_refl _) (by omega))]
    exact occ_of hp a ha n (i + 1) (by omega) (by omega) fun j h1 h2 => hn j (by omega) h2
theorem occ_none {l p : List Str} (hp : p ≠ []) : ∀ (i : Nat), occ l p i = [] → ∀ j, i ≤ j → stands l p j = false := by
  refine occ_ind (l := l) hp (P := fun i => occ l p i = [] → ∀ j, i ≤ j → stands l p j = false) (fun i h _ j hj => stands_far (by omega)) (fun i h _ ho => ?_) (fun i _ h ih ho j hj => ?_)
  · rw [occ_yes hp h] at ho; cases ho
  · rw [occ_no hp h] at ho
    by_cases e : j = i
    · rw [e]; exact h
    · exact ih ho j (by omega)
theorem occ_alike {l l' p : List Str} (hp : p ≠ []) {m : Nat} (h : l.take m = l'.take m) (hl : m ≤ l.length) (hl' : m ≤ l'.length) : ∀ (as : List Nat) (i : Nat) (r : List Nat), occ l p i = as ++ r → (∀ a ∈ as, a + p.length ≤ m) → ∃ r', occ l' p i = as ++ r'
  | [], i, r, _, _ => ⟨_, rfl⟩
  | a :: as, i, r, ho, hm => by
    obtain ⟨h1, h2, h3, h4⟩ := occ_head hp i a (as ++ r) ho
    have ha := hm a (by simp)
    obtain ⟨r', hr'⟩ := occ_alike hp h hl hl' as (a + p.length) r h4.symm fun b hb => hm b (by simp [hb])
    refine ⟨r', ?_⟩
    rw [occ_of hp a (by rw [← stands_alike h hl hl' ha]; exact h2) _ i rfl h1 fun j hj1 hj2 => by rw [← stands_alike h hl hl' (by omega)]; exact h3 j hj1 hj2, hr']
    rfl
theorem Apart.mem {l p : List Str} : ∀ {r : List Nat} {lo : Nat}, Apart l p lo r → ∀ a ∈ r, lo ≤ a ∧ a + p.length ≤ l.length
  | [], _, _, a, ha => by cases ha
  | b :: r, lo, h, a, ha => by
    rcases List.mem_cons.1 ha with rfl | ha
    · exact ⟨h.1, stands_lt h.2.1⟩
    · have := Apart.mem h.2.2 a ha
      have := h.1
      omega
/-- The first of the occurrences lie ahead of the next one. -/
theorem Apart.ahead {l p : List Str} : ∀ (r : List Nat) (lo k : Nat), Apart l p lo r → ∀ (hk : k < r.length), ∀ a ∈ r.take k, a + p.length ≤ r[k]
  | [], _, _, _, hk, _, _ => absurd hk (by simp)
  | b :: r, lo, 0, _, _, a, ha => by simp at ha
  | b :: r, lo, k + 1, h, hk, a, ha => by
    have hk' : k < r.length := by simpa using hk
    rw [List.take_succ_cons] at ha
    rcases List.mem_cons.1 ha with rfl | ha
    · exact (Apart.mem h.2.2 r[k] (List.getElem_mem hk')).1
    · exact Apart.ahead r _ k h.2.2 hk' a ha
/-- The list with the occurrences behind the first k replaced. -/
def upto (l p by_ : List Str) (k : Nat) : List Str := put l p.length by_ 0 ((occ l p 0).drop k)
/-- Its common beginning with the list. -/
def cut_ (l p : List Str) (k : Nat) : Nat := if h : k < (occ l p 0).length then (occ l p 0)[k] else l.length
/-- What lies behind the common beginning. -/
def tail_ (l p by_ : List Str) (k : Nat) : List Str := if h : k < (occ l p 0).length then by_ ++ put l p.length by_ ((occ l p 0)[k] + p.length) ((occ l p 0).drop (k + 1)) else []
theorem put_upto (l p by_ : List Str) (k i : Nat) : put l p.length by_ i ((occ l p 0).drop k) = (l.take (cut_ l p k)).drop i ++ tail_ l p by_ k := by
  unfold cut_ tail_
  by_cases h : k < (occ l p 0).length
  · rw [dif_pos h, dif_pos h, List.drop_eq_getElem_cons h, put]
  · rw [dif_neg h, dif_neg h, List.drop_of_length_le (by omega), put, List.take_length, List.append_nil]
theorem cut_le (l p : List Str) (k : Nat) : cut_ l p k ≤ l.length := by
  unfold cut_
  split
  · rename_i h
    have := (Apart.mem (occ_apart l p 0) _ (List.getElem_mem h)).2
    omega
  · exact Nat.le_refl _
/-- Replacing the occurrence with the number k in a list in which the ones behind it are replaced. -/
theorem repl_one (l p by_ : List Str) (k : Nat) (hk : k < (occ l p 0).length) : repl (upto l p by_ (k + 1)) p by_ ((k : Int) + 1) = (upto l p by_ k, 1) := by
  have hp : p ≠ [] := by
    rintro rfl
    rw [occ_nil] at hk
    simp at hk
  have hU : upto l p by_ (k + 1) = l.take (cut_ l p (k + 1)) ++ tail_ l p by_ (k + 1) := by
    unfold upto
    rw [put_upto, List.drop_zero]
  have hc := cut_le l p (k + 1)
  have hak : (occ l p 0)[k] + p.length ≤ cut_ l p (k + 1) := by
    unfold cut_
    split
    · rename_i h
      exact Apart.ahead _ 0 (k + 1) (occ_apart l p 0) h _ (by rw [List.take_succ_eq_append_getElem hk]; exact List.mem_append_right _ (List.mem_singleton.2 rfl))
    · exact (Apart.mem (occ_apart l p 0) _ (List.getElem_mem hk)).2
  have halike : l.take (cut_ l p (k + 1)) = (upto l p by_ (k + 1)).take (cut_ l p (k + 1)) := by
    rw [hU, List.take_append_of_le_length (by rw [List.length_take]; omega), List.take_take, Nat.min_self]
  obtain ⟨r', hr'⟩ := occ_alike hp halike hc (by rw [hU, List.length_append, List.length_take]; omega) ((occ l p 0).take (k + 1)) 0 ((occ l p 0).drop (k + 1)) (List.take_append_drop _ _).symm (by
    intro a ha
    rw [List.take_succ_eq_append_getElem hk] at ha
    rcases List.mem_append.1 ha with ha | ha
    · have := Apart.ahead _ 0 k (occ_apart l p 0) hk a ha
      omega
    · simp at ha
      omega)
  have hch : chosen (occ (upto l p by_ (k + 1)) p 0) ((k : Int) + 1) = [(occ l p 0)[k]] := by
    unfold chosen
    rw [if_neg (by omega), if_neg (by omega), hr', show ((k : Int) + 1).toNat - 1 = k by omega, List.take_succ_eq_append_getElem hk, List.append_assoc,
      List.drop_append_of_le_length (by rw [List.length_take]; omega), List.drop_of_length_le (by rw [List.length_take]; omega)]
    rfl
  unfold repl
  rw [hch]
  refine Prod.ext ?_ rfl
  show put (upto l p by_ (k + 1)) p.length by_ 0 [(occ l p 0)[k]] = upto l p by_ k
  have e1 : upto l p by_ k = l.take (occ l p 0)[k] ++ (by_ ++ put l p.length by_ ((occ l p 0)[k] + p.length) ((occ l p 0).drop (k + 1))) := by
    unfold upto
    rw [List.drop_eq_getElem_cons hk, put, List.drop_zero]
  rw [e1, put_upto, put, put, List.drop_zero]
  congr 1
  · rw [hU, List.take_append_of_le_length (by rw [List.length_take]; omega), List.take_take, Nat.min_eq_left (by omega)]
  · congr 1
    rw [hU, List.drop_append_of_le_length (by rw [List.length_take]; omega)]
theorem upto_all (l p by_ : List Str) : upto l p by_ 0 = (repl l p by_ 0).1 := by
  unfold upto repl
  rw [chosen_zero, List.drop_zero]
theorem upto_none (l p by_ : List Str) : upto l p by_ (occ l p 0).length = l := by
  unfold upto
  rw [List.drop_length, put, List.drop_zero]
end Occ
end Go.Proofs.YtphehcbjegfifaaDoor
