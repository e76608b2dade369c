/-
  The plain mathematics of the order of labels, of successors, and of what lies between two labels.
-/
import GoSem.Op.String
import Derived.Test.YtbjdfghakhplnaaDoorLab
namespace Go.Proofs.YtbjdfghakhplnaaDoor
namespace Lab
open Go.Op (bytesLess)

theorem blt_nil (a : Bs) : bytesLess a [] = false := by cases a <;> rfl
theorem blt_cons (x : UInt8) (a : Bs) (y : UInt8) (b : Bs) : bytesLess (x :: a) (y :: b) = true ↔ x.toNat < y.toNat ∨ (x = y ∧ bytesLess a b = true) := by
  rw [bytesLess, Bool.or_eq_true, Bool.and_eq_true, decide_eq_true_eq, beq_iff_eq, UInt8.lt_iff_toNat_lt]
theorem blt_irr : ∀ a : Bs, bytesLess a a = false
  | [] => rfl
  | x :: a => by
    rw [Bool.eq_false_iff]
    intro h
    rcases (blt_cons x a x a).1 h with h | ⟨_, h⟩
    · omega
    · rw [blt_irr a] at h; cases h
theorem blt_trans : ∀ {a b c : Bs}, bytesLess a b = true → bytesLess b c = true → bytesLess a c = true
  | _, [], _, h, _ => by rw [blt_nil] at h; cases h
  | _, _ :: _, [], _, h => by rw [blt_nil] at h; cases h
  | [], _ :: _, _ :: _, _, _ => rfl
  | x :: a, y :: b, z :: c, h1, h2 => by
    rw [blt_cons] at h1 h2 ⊢
    rcases h1 with h1 | ⟨rfl, h1⟩
    · rcases h2 with h2 | ⟨rfl, h2⟩
      · exact Or.inl (by omega)
      · exact Or.inl h1
    · rcases h2 with h2 | ⟨rfl, h2⟩
      · exact Or.inl h2
      · exact Or.inr ⟨rfl, blt_trans h1 h2⟩
theorem blt_tri : ∀ (a b : Bs), bytesLess a b = true ∨ a = b ∨ bytesLess b a = true
  | [], [] => Or.inr (Or.inl rfl)
  | [], _ :: _ => Or.inl rfl
  | _ :: _, [] => Or.inr (Or.inr rfl)
  | x :: a, y :: b => by
    rw [blt_cons, blt_cons]
    rcases Nat.lt_trichotomy x.toNat y.toNat with h | h | h
    · exact Or.inl (Or.inl h)
    · have hxy : x = y := UInt8.toNat_inj.1 h
      subst hxy
      rcases blt_tri a b with h | rfl | h
      · exact Or.inl (Or.inr ⟨rfl, h⟩)
      · exact Or.inr (Or.inl rfl)
      · exact Or.inr (Or.inr (Or.inr ⟨rfl, h⟩))
    · exact Or.inr (Or.inr (Or.inl h))
theorem blt_asymm {a b : Bs} (h : bytesLess a b = true) : bytesLess b a = false := by
  rw [Bool.eq_false_iff]
  intro h2
  have := blt_trans h h2
  rw [blt_irr] at this
  cases this
/-- Why one text comes ahead of another. -/
theorem blt_why : ∀ {c e : Bs}, bytesLess c e = true → (∃ y z, e = c ++ y :: z) ∨ ∃ r, r < c.length ∧ r < e.length ∧ e.take r = c.take r ∧ (c.getD r 0).toNat < (e.getD r 0).toNat
  | _, [], h => by rw [blt_nil] at h; cases h
  | [], y :: z, _ => Or.inl ⟨y, z, rfl⟩
  | x :: c, y :: e, h => by
    rcases (blt_cons x c y e).1 h with hx | ⟨rfl, hx⟩
    · exact Or.inr ⟨0, by simp, by simp, rfl, by simpa using hx⟩
    · rcases blt_why hx with ⟨u, z, hu⟩ | ⟨r, h1, h2, h3, h4⟩
      · exact Or.inl ⟨u, z, by rw [hu]; rfl⟩
      · exact Or.inr ⟨r + 1, by simpa using h1, by simpa using h2, by simp [h3], by simpa using h4⟩
theorem blt_app (p : Bs) : ∀ {a b : Bs}, bytesLess (p ++ a) (p ++ b) = bytesLess a b := by
  induction p with
  | nil => intro a b; rfl
  | cons x p ih =>
    intro a b
    rw [Bool.eq_iff_iff]
    show bytesLess (x :: (p ++ a)) (x :: (p ++ b)) = true ↔ _
    rw [blt_cons, ih]
    constructor
    · rintro (h | ⟨_, h⟩)
      · omega
      · exact h
    · exact fun h => Or.inr ⟨rfl, h⟩
theorem blt_more (c : Bs) (y : UInt8) (z : Bs) : bytesLess c (c ++ y :: z) = true := by
  have h := blt_app c (a := []) (b := y :: z)
  rw [List.append_nil] at h
  rw [h]; rfl

/-- The order of labels. -/
def Lt (n : Nat) (c : Bs) (m : Nat) (d : Bs) : Prop := n < m ∨ (n = m ∧ bytesLess c d = true)
theorem Lt.trans {n m p : Nat} {c d e : Bs} (h1 : Lt n c m d) (h2 : Lt m d p e) : Lt n c p e := by
  rcases h1 with h1 | ⟨rfl, h1⟩
  · rcases h2 with h2 | ⟨rfl, _⟩
    · exact Or.inl (by omega)
    · exact Or.inl h1
  · rcases h2 with h2 | ⟨rfl, h2⟩
    · exact Or.inl h2
    · exact Or.inr ⟨rfl, blt_trans h1 h2⟩
theorem Lt.irr {n : Nat} {c : Bs} (h : Lt n c n c) : False := by
  rcases h with h | ⟨_, h⟩
  · omega
  · rw [blt_irr] at h; cases h
theorem Lt.tri (n : Nat) (c : Bs) (m : Nat) (d : Bs) : Lt n c m d ∨ (n = m ∧ c = d) ∨ Lt m d n c := by
  rcases Nat.lt_trichotomy n m with h | h | h
  · exact Or.inl (Or.inl h)
  · subst h
    rcases blt_tri c d with h | h | h
    · exact Or.inl (Or.inr ⟨rfl, h⟩)
    · exact Or.inr (Or.inl ⟨rfl, h⟩)
    · exact Or.inr (Or.inr (Or.inr ⟨rfl, h⟩))
  · exact Or.inr (Or.inr (Or.inl h))
def Le (n : Nat) (c : Bs) (m : Nat) (d : Bs) : Prop := Lt n c m d ∨ (n = m ∧ c = d)
theorem Le.trans_lt {n m p : Nat} {c d e : Bs} (h1 : Le n c m d) (h2 : Lt m d p e) : Lt n c p e := by
  rcases h1 with h1 | ⟨rfl, rfl⟩
  · exact h1.trans h2
  · exact h2
theorem Le.antisymm {n m : Nat} {c d : Bs} (h1 : Le n c m d) (h2 : Le m d n c) : n = m ∧ c = d := by
  rcases h1 with h1 | h1
  · rcases h2 with h2 | ⟨rfl, rfl⟩
    · exact absurd (h1.trans h2) Lt.irr
    · exact ⟨rfl, rfl⟩
  · exact h1

/-- What Compare answers of two texts, of two numbers, and of two strings. -/
def cmpB (x y : Bs) : Int := if bytesLess x y = true then -1 else if x = y then 0 else 1
def cmpN (x y : Nat) : Int := if x < y then -1 else if x = y then 0 else 1
def compL (a b : Bs) : Int :=
  if (splitL a).1 = 0 ∧ (splitL b).1 = 0 then cmpB a b else if (splitL a).1 = 0 then 1 else if (splitL b).1 = 0 then -1
  else if (splitL a).1 = (splitL b).1 then cmpB (splitL a).2 (splitL b).2 else cmpN (splitL a).1 (splitL b).1
theorem comp_txt {n m : Nat} {c d : Bs} (h1 : Ok n c) (h2 : Ok m d) : compL (txt n c) (txt m d) = if n = m then cmpB c d else cmpN n m := by
  have hn := h1.1
  have hm := h2.1
  unfold compL
  rw [(may_txt h1).2, (may_txt h2).2]
  simp only
  rw [if_neg (by omega), if_neg (by omega), if_neg (by omega)]
theorem comp_lt {n m : Nat} {c d : Bs} (h1 : Ok n c) (h2 : Ok m d) : compL (txt n c) (txt m d) < 0 ↔ Lt n c m d := by
  rw [comp_txt h1 h2]
  unfold cmpB cmpN Lt
  by_cases h : n = m
  · rw [if_pos h]
    by_cases hb : bytesLess c d = true
    · rw [if_pos hb]; simp [h, hb]
    · rw [if_neg hb]
      constructor
      · intro hh
        split at hh <;> omega
      · rintro (hh | ⟨_, hh⟩)
        · omega
        · exact absurd hh hb
  · rw [if_neg h]
    constructor
    · intro hh
      left
      by_cases hl : n < m
      · exact hl
      · rw [if_neg hl, if_neg h] at hh; omega
    · rintro (hh | ⟨hh, _⟩)
      · rw [if_pos hh]; omega
      · exact absurd hh h
theorem comp_le {n m : Nat} {c d : Bs} (h1 : Ok n c) (h2 : Ok m d) : compL (txt n c) (txt m d) ≤ 0 ↔ Le n c m d := by
  rw [comp_txt h1 h2]
  unfold cmpB cmpN Le Lt
  by_cases h : n = m
  · rw [if_pos h]
    by_cases hb : bytesLess c d = true
    · rw [if_pos hb]; simp [h, hb]
    · rw [if_neg hb]
      by_cases hc : c = d
      · rw [if_pos hc]; simp [h, hc]
      · rw [if_neg hc]
        constructor
        · intro hh; omega
        · rintro ((hh | ⟨_, hh⟩) | ⟨_, hh⟩)
          · omega
          · exact absurd hh hb
          · exact absurd hh hc
  · rw [if_neg h]
    constructor
    · intro hh
      left; left
      by_cases hl : n < m
      · exact hl
      · rw [if_neg hl, if_neg h] at hh; omega
    · rintro ((hh | ⟨hh, _⟩) | ⟨hh, _⟩)
      · rw [if_pos hh]; omega
      · exact absurd hh h
      · exact absurd hh h

/-! Successors. -/
/-- How many letters are left when the Z's at the end are taken off. -/
def kz (c : Bs) : Nat → Nat
  | 0 => 0
  | k + 1 => if c.getD k 0 = 90 then kz c k else k + 1
theorem kz_le (c : Bs) : ∀ k, kz c k ≤ k
  | 0 => Nat.le_refl _
  | k + 1 => by
    rw [kz]
    split
    · have := kz_le c k; omega
    · exact Nat.le_refl _
theorem kz_zs (c : Bs) : ∀ k j, kz c k ≤ j → j < k → c.getD j 0 = 90
  | 0, j, _, h => absurd h (by omega)
  | k + 1, j, h1, h2 => by
    rw [kz] at h1
    split at h1
    · by_cases e : j = k
      · rw [e]; assumption
      · exact kz_zs c k j h1 (by omega)
    · omega
theorem kz_last (c : Bs) : ∀ k, 0 < kz c k → c.getD (kz c k - 1) 0 ≠ 90
  | 0, h => absurd h (by simp [kz])
  | k + 1, h => by
    rw [kz] at h ⊢
    split
    · rename_i h1
      rw [if_pos h1] at h
      exact kz_last c k h
    · simpa using ‹¬ c.getD k 0 = 90›
theorem kz_take (c : Bs) : ∀ k j, k ≤ j → kz (c.take j) k = kz c k
  | 0, _, _ => rfl
  | k + 1, j, h => by
    have e : (c.take j).getD k 0 = c.getD k 0 := by simp [List.getD, show k < j by omega]
    rw [kz, kz, e, kz_take c k j (by omega)]
/-- A letter and the next one. -/
def up (b : UInt8) : UInt8 := b + 1
theorem up_nat {b : UInt8} (h : isCap b = true) (hz : b ≠ 90) : (up b).toNat = b.toNat + 1 ∧ isCap (up b) = true := by
  unfold isCap at h
  rw [decide_eq_true_eq] at h
  have h90 : b.toNat ≠ 90 := fun he => hz (UInt8.toNat_inj.1 he)
  have e : (up b).toNat = b.toNat + 1 := by
    unfold up
    rw [UInt8.toNat_add]
    have : (1 : UInt8).toNat = 1 := rfl
    omega
  refine ⟨e, ?_⟩
  unfold isCap
  rw [decide_eq_true_eq, e]; omega
def nextN (n : Nat) (c : Bs) : Option (Nat × Bs) :=
  if 0 < kz c c.length then some (n, c.take (kz c c.length - 1) ++ [up (c.getD (kz c c.length - 1) 0)]) else if n = 9999 then none else some (n + 1, [])
def nextL (l : Bs) : Option Bs := if mayL l then (nextN (splitL l).1 (splitL l).2).map fun p => txt p.1 p.2 else none
theorem next_txt {n : Nat} {c : Bs} (h : Ok n c) : nextL (txt n c) = (nextN n c).map fun p => txt p.1 p.2 := by
  unfold nextL
  rw [if_pos (may_txt h).1, (may_txt h).2]
theorem cap_at {c : Bs} (h : ∀ b ∈ c, isCap b = true) {k : Nat} (hk : k < c.length) : isCap (c.getD k 0) = true := h _ (getD_mem hk)
theorem take_caps {c : Bs} (h : ∀ b ∈ c, isCap b = true) (k : Nat) : ∀ b ∈ c.take k, isCap b = true := fun b hb => h b (List.mem_of_mem_take hb)
/-- What a changed letter makes of the order. -/
theorem blt_up {c : Bs} {k : Nat} (hk : k < c.length) (x : UInt8) (hx : (c.getD k 0).toNat < x.toNat) (z : Bs) : bytesLess c (c.take k ++ x :: z) = true := by
  have e : c = c.take k ++ c.getD k 0 :: c.drop (k + 1) := by
    rw [List.getD, List.getElem?_eq_getElem hk]
    show c = c.take k ++ c[k] :: c.drop (k + 1)
    rw [← List.drop_eq_getElem_cons hk, List.take_append_drop]
  conv => lhs; arg 1; rw [e]
  rw [blt_app, blt_cons]
  exact Or.inl hx
theorem next_ok {n : Nat} {c : Bs} (h : Ok n c) {m : Nat} {d : Bs} (hn : nextN n c = some (m, d)) : Ok m d ∧ Lt n c m d ∧ d.length ≤ c.length := by
  obtain ⟨h1, h2, h3, h4⟩ := h
  have hk := kz_le c c.length
  unfold nextN at hn
  by_cases h0 : 0 < kz c c.length
  · rw [if_pos h0] at hn
    obtain ⟨rfl, rfl⟩ := Prod.mk.inj (Option.some.inj hn)
    have hlt : kz c c.length - 1 < c.length := by omega
    obtain ⟨u1, u2⟩ := up_nat (cap_at h4 hlt) (kz_last c _ h0)
    refine ⟨⟨h1, h2, ?_, ?_⟩, Or.inr ⟨rfl, blt_up hlt _ (by omega) []⟩, ?_⟩
    · rw [List.length_append, List.length_take]; simp; omega
    · intro b hb
      rcases List.mem_append.1 hb with hb | hb
      · exact take_caps h4 _ b hb
      · rw [List.mem_singleton.1 hb]; exact u2
    · rw [List.length_append, List.length_take]; simp; omega
  · rw [if_neg h0] at hn
    by_cases h9 : n = 9999
    · rw [if_pos h9] at hn; cases hn
    · rw [if_neg h9] at hn
      obtain ⟨rfl, rfl⟩ := Prod.mk.inj (Option.some.inj hn)
      exact ⟨⟨by omega, by omega, by simp, by simp⟩, Or.inl (by omega), by simp⟩
/-- Behind a text that ends in Z's only longer ones come ahead of the next. -/
theorem longer_of {c : Bs} {k : Nat} (hz : ∀ j, k ≤ j → j < c.length → c.getD j 0 = 90) {e : Bs} (he : ∀ b ∈ e, isCap b = true) (h : bytesLess c e = true) (hp : ∀ r, r < k → r < e.length → e.take r = c.take r → ¬ (c.getD r 0).toNat < (e.getD r 0).toNat) : c.length < e.length := by
  rcases blt_why h with ⟨y, z, rfl⟩ | ⟨r, h1, h2, h3, h4⟩
  · simp
  · by_cases hr : r < k
    · exact absurd h4 (hp r hr h2 h3)
    · have x1 := hz r (by omega) h1
      have x2 := cap_at he h2
      unfold isCap at x2
      rw [decide_eq_true_eq] at x2
      rw [x1] at h4
      have : (90 : UInt8).toNat = 90 := rfl
      omega
theorem next_between {n : Nat} {c : Bs} (h : Ok n c) {m : Nat} {d : Bs} (hn : nextN n c = some (m, d)) {p : Nat} {e : Bs} (he : Ok p e) (l1 : Lt n c p e) (l2 : Lt p e m d) : c.length < e.length := by
  obtain ⟨h1, h2, h3, h4⟩ := h
  have hk := kz_le c c.length
  unfold nextN at hn
  by_cases h0 : 0 < kz c c.length
  · rw [if_pos h0] at hn
    obtain ⟨rfl, rfl⟩ := Prod.mk.inj (Option.some.inj hn)
    have hlt : kz c c.length - 1 < c.length := by omega
    obtain ⟨u1, u2⟩ := up_nat (cap_at h4 hlt) (kz_last c _ h0)
    obtain rfl : n = p := by
      rcases l1 with l1 | ⟨l1, _⟩ <;> rcases l2 with l2 | ⟨l2, _⟩ <;> omega
    have b1 : bytesLess c e = true := by
      rcases l1 with l1 | ⟨_, l1⟩
      · omega
      · exact l1
    have b2 : bytesLess e (c.take (kz c c.length - 1) ++ [up (c.getD (kz c c.length - 1) 0)]) = true := by
      rcases l2 with l2 | ⟨_, l2⟩
      · omega
      · exact l2
    refine longer_of (k := kz c c.length) (fun j hj1 hj2 => kz_zs c c.length j hj1 hj2) he.2.2.2 b1 fun r hr hre htk hlt2 => ?_
    have ee0 : e = c.take r ++ e.getD r 0 :: e.drop (r + 1) := by
      rw [← htk, List.getD, List.getElem?_eq_getElem hre]
      show e = e.take r ++ e[r] :: e.drop (r + 1)
      rw [← List.drop_eq_getElem_cons hre, List.take_append_drop]
    obtain ⟨y, hy⟩ : ∃ y, y = e.getD r 0 := ⟨_, rfl⟩
    obtain ⟨z, hz⟩ : ∃ z, z = e.drop (r + 1) := ⟨_, rfl⟩
    rw [← hy, ← hz] at ee0
    rw [← hy] at hlt2
    have ee := ee0
    clear ee0 hz htk hre
    clear hy
    have hcontra : bytesLess (c.take (kz c c.length - 1) ++ [up (c.getD (kz c c.length - 1) 0)]) e = true ∨ c.take (kz c c.length - 1) ++ [up (c.getD (kz c c.length - 1) 0)] = c.take r ++ y :: [] ∧ r = kz c c.length - 1 := by
      by_cases hrk : r = kz c c.length - 1
      · rw [← hrk] at u1 ⊢
        by_cases hyy : y = up (c.getD r 0)
        · right
          exact ⟨by rw [hyy], rfl⟩
        · left
          have : (up (c.getD r 0)).toNat ≠ (y).toNat := fun hh => hyy (UInt8.toNat_inj.1 hh).symm
          conv => lhs; arg 2; rw [ee]
          rw [blt_app, blt_cons]
          exact Or.inl (by omega)
      · left
        have e1 : c.take (kz c c.length - 1) = c.take r ++ c.getD r 0 :: (c.take (kz c c.length - 1)).drop (r + 1) := by
          have hl : r < (c.take (kz c c.length - 1)).length := by rw [List.length_take]; omega
          have hx : (c.take (kz c c.length - 1))[r] = c.getD r 0 := by
            rw [List.getElem_take, List.getD, List.getElem?_eq_getElem (by omega)]; rfl
          rw [← hx]
          rw [← List.drop_eq_getElem_cons hl]
          have : (c.take (kz c c.length - 1)).take r = c.take r := by rw [List.take_take, Nat.min_eq_left (by omega)]
          rw [← this, List.take_append_drop]
        rw [e1]
        conv => lhs; arg 2; rw [ee]
        rw [List.append_assoc, blt_app, List.cons_append, blt_cons]
        exact Or.inl hlt2
    rcases hcontra with hh | ⟨hh, hrk⟩
    · rw [blt_asymm hh] at b2; cases b2
    · rw [hh] at b2
      rw [ee, blt_app, blt_cons] at b2
      rcases b2 with b2 | ⟨_, b2⟩
      · simp at b2
      · rw [blt_nil] at b2; cases b2
  · rw [if_neg h0] at hn
    by_cases h9 : n = 9999
    · rw [if_pos h9] at hn; cases hn
    · rw [if_neg h9] at hn
      obtain ⟨rfl, rfl⟩ := Prod.mk.inj (Option.some.inj hn)
      have hp : n = p := by
        rcases l2 with l2 | ⟨_, l2⟩
        · rcases l1 with l1 | ⟨l1, _⟩ <;> omega
        · rw [blt_nil] at l2; cases l2
      subst hp
      have b1 : bytesLess c e = true := by
        rcases l1 with l1 | ⟨_, l1⟩
        · omega
        · exact l1
      exact longer_of (k := 0) (fun j _ hj => kz_zs c c.length j (by omega) hj) he.2.2.2 b1 fun r hr => absurd hr (by omega)
end Lab
end Go.Proofs.YtbjdfghakhplnaaDoor
