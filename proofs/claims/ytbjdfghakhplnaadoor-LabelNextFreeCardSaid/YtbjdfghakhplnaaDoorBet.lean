/-
  The plain mathematics of the best label between two labels: that it is one alone, that the program's way finds it, and that a search finds it.
-/
import Derived.Test.YtbjdfghakhplnaaDoorOrd
namespace Go.Proofs.YtbjdfghakhplnaaDoor
namespace Lab
open Go.Op (bytesLess)

def Bet (n : Nat) (c : Bs) (m : Nat) (d : Bs) (p : Nat) (e : Bs) : Prop := Lt n c p e ∧ Lt p e m d
def Best (n : Nat) (c : Bs) (m : Nat) (d : Bs) : Option (Nat × Bs) → Prop
  | none => ∀ p e, Ok p e → ¬ Bet n c m d p e
  | some q => Ok q.1 q.2 ∧ Bet n c m d q.1 q.2 ∧ ∀ p e, Ok p e → Bet n c m d p e → q.2.length < e.length ∨ (q.2.length = e.length ∧ Le q.1 q.2 p e)
theorem Best.unique {n m : Nat} {c d : Bs} : ∀ {R S : Option (Nat × Bs)}, Best n c m d R → Best n c m d S → R = S
  | none, none, _, _ => rfl
  | none, some q, h, g => absurd g.2.1 (h _ _ g.1)
  | some q, none, h, g => absurd h.2.1 (g _ _ h.1)
  | some q, some r, h, g => by
    rcases h.2.2 _ _ g.1 g.2.1 with h1 | ⟨h1, h2⟩
    · rcases g.2.2 _ _ h.1 h.2.1 with g1 | ⟨g1, _⟩ <;> omega
    · rcases g.2.2 _ _ h.1 h.2.1 with g1 | ⟨_, g2⟩
      · omega
      · obtain ⟨e1, e2⟩ := h2.antisymm g2
        rw [show q = r from Prod.ext e1 e2]
theorem ok_take {n : Nat} {c : Bs} (h : Ok n c) (j : Nat) : Ok n (c.take j) := ⟨h.1, h.2.1, by rw [List.length_take]; have := h.2.2.1; omega, take_caps h.2.2.2 j⟩

/-! The program's way. -/
/-- None of the first j successors comes ahead of the end. -/
def Failed (n : Nat) (c : Bs) (m : Nat) (d : Bs) (j : Nat) : Prop := ∀ i, i < j → ∀ q f, nextN n (c.take i) = some (q, f) → ¬ Lt q f m d
theorem next_nil (n : Nat) (c : Bs) : nextN n (c.take 0) = if n = 9999 then none else some (n + 1, []) := rfl
theorem next_at {n : Nat} {c : Bs} {r : Nat} (hr : r < c.length) (h : c.getD r 0 ≠ 90) : nextN n (c.take (r + 1)) = some (n, c.take r ++ [up (c.getD r 0)]) := by
  have hl : (c.take (r + 1)).length = r + 1 := by rw [List.length_take]; omega
  have hk : kz (c.take (r + 1)) (r + 1) = r + 1 := by
    rw [kz_take c (r + 1) (r + 1) (Nat.le_refl _), kz, if_neg h]
  unfold nextN
  rw [hl, hk, if_pos (by omega), Nat.add_sub_cancel]
  have e1 : (c.take (r + 1)).getD r 0 = c.getD r 0 := by simp [List.getD]
  rw [e1, List.take_take, Nat.min_eq_left (by omega)]
theorem le_step {n : Nat} {c e : Bs} {r : Nat} (hr : r < e.length) (ht : e.take r = c.take r) {x : UInt8} (hx : x.toNat ≤ (e.getD r 0).toNat) : Le n (c.take r ++ [x]) n e := by
  have ee : e = c.take r ++ e.getD r 0 :: e.drop (r + 1) := by
    rw [← ht, List.getD, List.getElem?_eq_getElem hr]
    show e = e.take r ++ e[r] :: e.drop (r + 1)
    rw [← List.drop_eq_getElem_cons hr, List.take_append_drop]
  obtain ⟨y, hy⟩ : ∃ y, y = e.getD r 0 := ⟨_, rfl⟩
  obtain ⟨z, hz⟩ : ∃ z, z = e.drop (r + 1) := ⟨_, rfl⟩
  rw [← hy, ← hz] at ee
  rw [← hy] at hx
  rw [ee]
  by_cases hxy : x = y
  · subst hxy
    cases z with
    | nil => exact Or.inr ⟨rfl, rfl⟩
    | cons u z =>
      left; right
      refine ⟨rfl, ?_⟩
      rw [blt_app, blt_cons]
      exact Or.inr ⟨rfl, rfl⟩
  · left; right
    refine ⟨rfl, ?_⟩
    rw [blt_app, blt_cons]
    have : x.toNat ≠ y.toNat := fun hh => hxy (UInt8.toNat_inj.1 hh)
    exact Or.inl (by omega)
theorem failed_key {n m : Nat} {c d : Bs} (h : Ok n c) {j : Nat} (hj : 0 < j) (hf : Failed n c m d j) {p : Nat} {e : Bs} (he : Ok p e) (hb : Bet n c m d p e) :
    n = p ∧ ((∃ y z, e = c ++ y :: z) ∨ ∃ r, r < c.length ∧ r < e.length ∧ e.take r = c.take r ∧ (c.getD r 0).toNat < (e.getD r 0).toNat ∧ j ≤ r + 1) := by
  obtain ⟨l1, l2⟩ := hb
  have hp : n = p := by
    rcases l1 with l1 | ⟨l1, _⟩
    · exfalso
      have h9 : n ≠ 9999 := by have := he.2.1; omega
      refine hf 0 hj (n + 1) [] (by rw [next_nil, if_neg h9]) (Le.trans_lt ?_ l2)
      by_cases hn : n + 1 = p
      · subst hn
        cases e with
        | nil => exact Or.inr ⟨rfl, rfl⟩
        | cons x e => exact Or.inl (Or.inr ⟨rfl, rfl⟩)
      · exact Or.inl (Or.inl (by omega))
    · exact l1
  subst hp
  refine ⟨rfl, ?_⟩
  have b1 : bytesLess c e = true := by
    rcases l1 with l1 | ⟨_, l1⟩
    · omega
    · exact l1
  rcases blt_why b1 with hh | ⟨r, h1, h2, h3, h4⟩
  · exact Or.inl hh
  · right
    refine ⟨r, h1, h2, h3, h4, ?_⟩
    by_cases hr : r + 1 < j
    · exfalso
      have x2 := cap_at he.2.2.2 h2
      unfold isCap at x2
      rw [decide_eq_true_eq] at x2
      have hne : c.getD r 0 ≠ 90 := by
        intro hh
        rw [hh] at h4
        have : (90 : UInt8).toNat = 90 := rfl
        omega
      have hup := (up_nat (cap_at h.2.2.2 h1) hne).1
      exact hf (r + 1) hr _ _ (next_at h1 hne) (Le.trans_lt (le_step h2 h3 (by omega)) l2)
    · omega
theorem prog_found {n m : Nat} {c d : Bs} (h : Ok n c) {j : Nat} (hj : j ≤ c.length) (hf : Failed n c m d j) {q : Nat} {f : Bs} (hn : nextN n (c.take j) = some (q, f)) (hl : Lt q f m d) : Best n c m d (some (q, f)) := by
  have hok := next_ok (ok_take h j) hn
  cases j with
  | zero =>
    rw [next_nil] at hn
    by_cases h9 : n = 9999
    · rw [if_pos h9] at hn; cases hn
    · rw [if_neg h9] at hn
      obtain ⟨rfl, rfl⟩ := Prod.mk.inj (Option.some.inj hn)
      refine ⟨hok.1, ⟨Or.inl (by simp), hl⟩, fun p e he hb => ?_⟩
      simp only [List.length_nil]
      cases e with
      | nil =>
        right
        refine ⟨rfl, ?_⟩
        have hp : n < p := by
          rcases hb.1 with l1 | ⟨_, l1⟩
          · exact l1
          · rw [blt_nil] at l1; cases l1
        by_cases hn : n + 1 = p
        · exact Or.inr ⟨hn, rfl⟩
        · exact Or.inl (Or.inl (by omega))
      | cons x e => left; simp
  | succ r =>
    have hr : r < c.length := by omega
    have h90 : c.getD r 0 ≠ 90 := by
      intro hz
      -- the letters end in Z's: the same successor failed before
      have hl1 : (c.take (r + 1)).length = r + 1 := by rw [List.length_take]; omega
      have hkk := kz_take c (r + 1) (r + 1) (Nat.le_refl _)
      have hkz : kz c (r + 1) = kz c r := by rw [kz, if_pos hz]
      have hkle := kz_le c r
      by_cases h0 : 0 < kz c r
      · have hlast := kz_last c r h0
        obtain ⟨i, hi⟩ : ∃ i, kz c r = i + 1 := ⟨kz c r - 1, by omega⟩
        rw [hi, Nat.add_sub_cancel] at hlast
        have e1 := next_at (n := n) (c := c) (r := i) (by omega) hlast
        have e2 : nextN n (c.take (r + 1)) = nextN n (c.take (i + 1)) := by
          rw [e1]
          unfold nextN
          rw [hl1, hkk, hkz, hi, if_pos (by omega), Nat.add_sub_cancel]
          have e3 : (c.take (r + 1)).getD i 0 = c.getD i 0 := by simp [List.getD, show i < r + 1 by omega]
          rw [e3, List.take_take, Nat.min_eq_left (by omega)]
        rw [e2] at hn
        exact hf (i + 1) (by omega) q f hn hl
      · have e2 : nextN n (c.take (r + 1)) = nextN n (c.take 0) := by
          rw [next_nil]
          unfold nextN
          rw [hl1, hkk, hkz, if_neg h0]
        rw [e2] at hn
        exact hf 0 (by omega) q f hn hl
    rw [next_at hr h90] at hn
    obtain ⟨rfl, rfl⟩ := Prod.mk.inj (Option.some.inj hn)
    have hup := (up_nat (cap_at h.2.2.2 hr) h90).1
    have hlen : (c.take r ++ [up (c.getD r 0)]).length = r + 1 := by rw [List.length_append, List.length_take]; simp; omega
    refine ⟨hok.1, ⟨Or.inr ⟨rfl, blt_up hr _ (by omega) []⟩, hl⟩, fun p e he hb => ?_⟩
    obtain ⟨rfl, hw⟩ := failed_key h (by omega) hf he hb
    simp only [hlen]
    rcases hw with ⟨y, z, rfl⟩ | ⟨s, h1, h2, h3, h4, h5⟩
    · left; simp; omega
    · by_cases hel : e.length = r + 1
      · right
        obtain rfl : s = r := by omega
        exact ⟨hel.symm, le_step h2 h3 (by omega)⟩
      · left; omega
theorem prog_yes {n m : Nat} {c d : Bs} (h : Ok n c) (hf : Failed n c m d (c.length + 1)) (h3 : c.length + 1 ≤ 3) (hl : Lt n (c ++ [65]) m d) : Best n c m d (some (n, c ++ [65])) := by
  have hok : Ok n (c ++ [65]) := ⟨h.1, h.2.1, by simpa using h3, fun b hb => by
    rcases List.mem_append.1 hb with hb | hb
    · exact h.2.2.2 b hb
    · rw [List.mem_singleton.1 hb]; decide⟩
  refine ⟨hok, ⟨Or.inr ⟨rfl, blt_more c 65 []⟩, hl⟩, fun p e he hb => ?_⟩
  obtain ⟨rfl, hw⟩ := failed_key h (by omega) hf he hb
  rcases hw with ⟨y, z, rfl⟩ | ⟨s, h1, h2, h3, h4, h5⟩
  · cases z with
    | nil =>
      right
      refine ⟨by simp, ?_⟩
      have hy := he.2.2.2 y (by simp)
      unfold isCap at hy
      rw [decide_eq_true_eq] at hy
      by_cases e65 : (65 : UInt8) = y
      · rw [← e65]; exact Or.inr ⟨rfl, rfl⟩
      · left; right
        refine ⟨rfl, ?_⟩
        rw [blt_app, blt_cons]
        have : (65 : UInt8).toNat = 65 := rfl
        have hne : (65 : UInt8).toNat ≠ y.toNat := fun hh => e65 (UInt8.toNat_inj.1 hh)
        exact Or.inl (by omega)
    | cons u z => left; simp
  · omega
theorem prog_no {n m : Nat} {c d : Bs} (h : Ok n c) (hf : Failed n c m d (c.length + 1)) (h3 : c.length = 3 ∨ ¬ Lt n (c ++ [65]) m d) : Best n c m d none := by
  intro p e he hb
  obtain ⟨rfl, hw⟩ := failed_key h (by omega) hf he hb
  rcases hw with ⟨y, z, rfl⟩ | ⟨s, h1, h2, h3, h4, h5⟩
  · rcases h3 with h3 | h3
    · have := he.2.2.1
      rw [List.length_append, List.length_cons] at this
      omega
    · apply h3
      refine Le.trans_lt (m := n) (d := c ++ y :: z) ?_ hb.2
      have hy := he.2.2.2 y (by simp)
      unfold isCap at hy
      rw [decide_eq_true_eq] at hy
      by_cases e65 : (65 : UInt8) = y
      · subst e65
        cases z with
        | nil => exact Or.inr ⟨rfl, rfl⟩
        | cons u z =>
          left; right
          refine ⟨rfl, ?_⟩
          rw [blt_app, blt_cons]
          exact Or.inr ⟨rfl, rfl⟩
      · left; right
        refine ⟨rfl, ?_⟩
        rw [blt_app, blt_cons]
        have : (65 : UInt8).toNat = 65 := rfl
        have hne : (65 : UInt8).toNat ≠ y.toNat := fun hh => e65 (UInt8.toNat_inj.1 hh)
        exact Or.inl (by omega)
  · omega
theorem Failed.next {n m : Nat} {c d : Bs} {j : Nat} (hf : Failed n c m d j) (h : ∀ q f, nextN n (c.take j) = some (q, f) → ¬ Lt q f m d) : Failed n c m d (j + 1) := by
  intro i hi q f hn
  by_cases e : i = j
  · subst e; exact h q f hn
  · exact hf i (by omega) q f hn

/-! The search. -/
def capsL : Bs := (List.range 26).map fun i => UInt8.ofNat (65 + i)
theorem caps_at (i : Nat) (h : i < 26) : (UInt8.ofNat (65 + i)).toNat = 65 + i := by
  rw [UInt8.toNat_ofNat']; omega
theorem caps_mem (b : UInt8) : b ∈ capsL ↔ isCap b = true := by
  unfold capsL isCap
  rw [List.mem_map, decide_eq_true_eq]
  constructor
  · rintro ⟨i, hi, rfl⟩
    have := List.mem_range.1 hi
    rw [caps_at i this]; omega
  · intro h
    refine ⟨b.toNat - 65, List.mem_range.2 (by omega), UInt8.toNat_inj.1 ?_⟩
    rw [caps_at _ (by omega)]; omega
def allL : Nat → List Bs
  | 0 => [[]]
  | k + 1 => (allL k).flatMap fun s => capsL.map fun x => s ++ [x]
theorem all_mem : ∀ (k : Nat) (e : Bs), e ∈ allL k ↔ e.length = k ∧ ∀ b ∈ e, isCap b = true
  | 0, e => by
    rw [allL, List.mem_singleton]
    constructor
    · rintro rfl; simp
    · rintro ⟨h, _⟩; exact List.eq_nil_of_length_eq_zero h
  | k + 1, e => by
    rw [allL, List.mem_flatMap]
    constructor
    · rintro ⟨s, hs, he⟩
      obtain ⟨x, hx, rfl⟩ := List.mem_map.1 he
      obtain ⟨h1, h2⟩ := (all_mem k s).1 hs
      refine ⟨by simp [h1], fun b hb => ?_⟩
      rcases List.mem_append.1 hb with hb | hb
      · exact h2 b hb
      · rw [List.mem_singleton.1 hb]; exact (caps_mem x).1 hx
    · rintro ⟨h1, h2⟩
      rcases List.eq_nil_or_concat e with rfl | ⟨s, x, rfl⟩
      · simp at h1
      · rw [List.concat_eq_append] at h1 h2 ⊢
        exact ⟨s, (all_mem k s).2 ⟨by simpa using h1, fun b hb => h2 b (by simp [hb])⟩, List.mem_map.2 ⟨x, (caps_mem x).2 (h2 x (by simp)), rfl⟩⟩
theorem all_len : ∀ k, (allL k).length = 26 ^ k
  | 0 => rfl
  | k + 1 => by
    have h1 : ∀ l : List Bs, (l.flatMap fun s => capsL.map fun x => s ++ [x]).length = l.length * 26 := by
      intro l
      induction l with
      | nil => rfl
      | cons s l ih =>
        rw [List.flatMap_cons, List.length_append, ih, List.length_map]
        have : capsL.length = 26 := rfl
        rw [this, List.length_cons]; omega
    rw [allL, h1, all_len k, Nat.pow_succ]
theorem blt_snoc : ∀ {a b : Bs} (u v : Bs), a.length = b.length → bytesLess a b = true → bytesLess (a ++ u) (b ++ v) = true
  | _, [], _, _, _, h => by rw [blt_nil] at h; cases h
  | [], _ :: _, _, _, hl, _ => by simp at hl
  | x :: a, y :: b, u, v, hl, h => by
    show bytesLess (x :: (a ++ u)) (y :: (b ++ v)) = true
    rw [blt_cons] at h ⊢
    rcases h with h | ⟨hxy, h⟩
    · exact Or.inl h
    · exact Or.inr ⟨hxy, blt_snoc u v (by simpa using hl) h⟩
theorem all_sorted : ∀ k, (allL k).Pairwise fun a b => bytesLess a b = true
  | 0 => by simp [allL]
  | k + 1 => by
    rw [allL, List.pairwise_flatMap]
    constructor
    · intro s _
      rw [List.pairwise_map]
      unfold capsL
      rw [List.pairwise_map]
      refine (List.pairwise_lt_range (n := 26)).imp_of_mem fun {i j} hi hj hij => ?_
      have h1 := List.mem_range.1 hi
      have h2 := List.mem_range.1 hj
      rw [blt_app, blt_cons]
      left
      rw [caps_at i h1, caps_at j h2]; omega
    · refine (all_sorted k).imp_of_mem fun {a b} ha hb hab => ?_
      intro x hx y hy
      obtain ⟨u, _, rfl⟩ := List.mem_map.1 hx
      obtain ⟨v, _, rfl⟩ := List.mem_map.1 hy
      exact blt_snoc [u] [v] (((all_mem k a).1 ha).1.trans ((all_mem k b).1 hb).1.symm) hab
/-- Which labels the search has looked at, all in vain. -/
def Seen (n : Nat) (c : Bs) (m : Nat) (d : Bs) (k q i : Nat) : Prop :=
  ∀ p e, Ok p e → (p = n ∨ p = n + 1) → (e.length < k ∨ (e.length = k ∧ p < q) ∨ (p = q ∧ e ∈ (allL k).take i)) → ¬ Bet n c m d p e
theorem Seen.start (n : Nat) (c : Bs) (m : Nat) (d : Bs) : Seen n c m d 0 n 0 := by
  intro p e _ hp h
  rcases h with h | ⟨_, h⟩ | ⟨_, h⟩
  · omega
  · omega
  · simp at h
theorem Seen.step {n : Nat} {c : Bs} {m : Nat} {d : Bs} {k q i : Nat} (h : Seen n c m d k q i) (hi : i < (allL k).length) (hb : ¬ Bet n c m d q (allL k)[i]) : Seen n c m d k q (i + 1) := by
  intro p e ho hp hh
  rcases hh with hh | hh | ⟨rfl, hh⟩
  · exact h p e ho hp (Or.inl hh)
  · exact h p e ho hp (Or.inr (Or.inl hh))
  · rw [List.take_succ_eq_append_getElem hi] at hh
    rcases List.mem_append.1 hh with hh | hh
    · exact h p e ho hp (Or.inr (Or.inr ⟨rfl, hh⟩))
    · rw [List.mem_singleton.1 hh]; exact hb
theorem Seen.row {n : Nat} {c : Bs} {m : Nat} {d : Bs} {k q i : Nat} (h : Seen n c m d k q i) (hi : (allL k).length ≤ i) : Seen n c m d k (q + 1) 0 := by
  intro p e ho hp hh
  rcases hh with hh | ⟨h1, h2⟩ | ⟨_, hh⟩
  · exact h p e ho hp (Or.inl hh)
  · by_cases hpq : p < q
    · exact h p e ho hp (Or.inr (Or.inl ⟨h1, hpq⟩))
    · refine h p e ho hp (Or.inr (Or.inr ⟨by omega, ?_⟩))
      rw [List.take_of_length_le hi]
      exact (all_mem k e).2 ⟨h1, ho.2.2.2⟩
  · simp at hh
theorem Seen.level {n : Nat} {c : Bs} {m : Nat} {d : Bs} {k q : Nat} (h : Seen n c m d k q 0) (hq : n + 2 ≤ q ∨ 10000 ≤ q) : Seen n c m d (k + 1) n 0 := by
  intro p e ho hp hh
  rcases hh with hh | ⟨_, h2⟩ | ⟨_, hh⟩
  · by_cases he : e.length < k
    · exact h p e ho hp (Or.inl he)
    · refine h p e ho hp (Or.inr (Or.inl ⟨by omega, ?_⟩))
      have := ho.2.1
      omega
  · omega
  · simp at hh
theorem far_near {n : Nat} {c : Bs} {m : Nat} {d : Bs} {p : Nat} {e : Bs} (hn : 1 ≤ n) (ho : Ok p e) (hp : n + 2 ≤ p) (hb : Bet n c m d p e) : Ok (n + 1) [] ∧ Bet n c m d (n + 1) [] :=
  ⟨⟨by omega, by have := ho.2.1; omega, by simp, by simp⟩, Or.inl (by omega), Lt.trans (Or.inl (by omega)) hb.2⟩
theorem bet_ge {n : Nat} {c : Bs} {m : Nat} {d : Bs} {p : Nat} {e : Bs} (hb : Bet n c m d p e) : n ≤ p := by
  rcases hb.1 with h | ⟨h, _⟩ <;> omega
theorem search_found {n : Nat} {c : Bs} {m : Nat} {d : Bs} {k q i : Nat} (hn : Ok n c) (h : Seen n c m d k q i) (hk : k ≤ 3) (hq : q = n ∨ q = n + 1) (h9 : q ≤ 9999) (hi : i < (allL k).length) (hb : Bet n c m d q (allL k)[i]) : Best n c m d (some (q, (allL k)[i])) := by
  obtain ⟨hl, hcap⟩ := (all_mem k _).1 (List.getElem_mem hi)
  refine ⟨⟨by have := hn.1; simp only; omega, h9, by simp only [hl]; exact hk, hcap⟩, hb, fun p e ho hbe => ?_⟩
  simp only [hl]
  by_cases hp : n + 2 ≤ p
  · obtain ⟨h1, h2⟩ := far_near hn.1 ho hp hbe
    rcases Nat.eq_zero_or_pos k with hk0 | hk0
    · have hqn : q < p := by omega
      rcases Nat.eq_zero_or_pos e.length with he | he
      · right
        exact ⟨by omega, Or.inl (Or.inl hqn)⟩
      · left; omega
    · exact absurd h2 (h (n + 1) [] h1 (Or.inr rfl) (Or.inl (by simpa using hk0)))
  · have hpn : p = n ∨ p = n + 1 := by have := bet_ge hbe; omega
    by_cases he : e.length < k
    · exact absurd hbe (h p e ho hpn (Or.inl he))
    · by_cases hek : e.length = k
      · right
        refine ⟨hek.symm, ?_⟩
        rcases Nat.lt_trichotomy p q with hpq | hpq | hpq
        · exact absurd hbe (h p e ho hpn (Or.inr (Or.inl ⟨hek, hpq⟩)))
        · subst hpq
          obtain ⟨j, hj, he'⟩ := List.getElem_of_mem ((all_mem k e).2 ⟨hek, ho.2.2.2⟩)
          rcases Nat.lt_trichotomy j i with hji | hji | hji
          · refine absurd hbe (h p e ho hpn (Or.inr (Or.inr ⟨rfl, ?_⟩)))
            rw [← he']
            exact List.mem_take_iff_getElem.2 ⟨j, by omega, rfl⟩
          · subst hji
            exact Or.inr ⟨rfl, he'⟩
          · left; right
            refine ⟨rfl, ?_⟩
            rw [← he']
            exact List.pairwise_iff_getElem.1 (all_sorted k) i j hi hj hji
        · exact Or.inl (Or.inl hpq)
      · left; omega
theorem search_none {n : Nat} {c : Bs} {m : Nat} {d : Bs} (hn : Ok n c) (h : Seen n c m d 4 n 0) : Best n c m d none := by
  intro p e ho hb
  by_cases hp : n + 2 ≤ p
  · obtain ⟨h1, h2⟩ := far_near hn.1 ho hp hb
    exact h (n + 1) [] h1 (Or.inr rfl) (Or.inl (by simp)) h2
  · exact h p e ho (by have := bet_ge hb; omega) (Or.inl (by have := ho.2.2.1; omega)) hb
end Lab
end Go.Proofs.YtbjdfghakhplnaaDoor
