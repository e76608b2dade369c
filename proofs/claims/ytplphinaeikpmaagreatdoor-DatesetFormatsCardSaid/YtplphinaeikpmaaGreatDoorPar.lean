/-
  The plain mathematics of the texts of sets: digits, the text of a span, cutting a text at its commas, and what a reader of one span finds. It imports nothing of the program.
-/
import Derived.Lib.AtoiAll
import Derived.Lib.ItoaNum
import Derived.Lib.SplitLaws
import Derived.Lib.Join
import Derived.Handy
import Derived.Test.YtplphinaeikpmaaGreatDoorSpans
namespace Go.Proofs.YtplphinaeikpmaaGreatDoor
namespace Spans

abbrev Bs := List UInt8
def isDig (c : UInt8) : Bool := decide (48 ≤ c.toNat ∧ c.toNat ≤ 57)
/-- The number that a list of digits stands for, behind a number. -/
def valA (a : Nat) (l : Bs) : Nat := l.foldl (fun n c => n * 10 + (c.toNat - 48)) a
def val (l : Bs) : Nat := valA 0 l
theorem val_snoc (l : Bs) (c : UInt8) : val (l ++ [c]) = val l * 10 + (c.toNat - 48) := by simp [val, valA]
theorem valA_ge : ∀ (l : Bs) (a : Nat), a ≤ valA a l
  | [], a => Nat.le_refl _
  | c :: r, a => by
    have h := valA_ge r (a * 10 + (c.toNat - 48))
    have e : valA a (c :: r) = valA (a * 10 + (c.toNat - 48)) r := rfl
    rw [e]; omega
theorem d8_toNat (u : Nat) (h : u < 10) : (UInt8.ofNat (48 + u)).toNat = 48 + u := by
  rw [UInt8.toNat_ofNat']; omega
theorem dec_dig (u : Nat) : ∀ c ∈ Lib.decDigits u, isDig c = true := by
  induction u using Nat.strongRecOn with
  | _ u ih =>
    intro c hc
    rw [Lib.decDigits] at hc
    split at hc
    · rw [List.mem_singleton] at hc
      subst hc
      unfold isDig
      rw [d8_toNat u (by omega)]
      simp; omega
    · rcases List.mem_append.1 hc with h | h
      · exact ih (u / 10) (by omega) c h
      · rw [List.mem_singleton] at h
        subst h
        unfold isDig
        rw [d8_toNat (u % 10) (by omega)]
        simp; omega
theorem dec_val (u : Nat) : val (Lib.decDigits u) = u := by
  induction u using Nat.strongRecOn with
  | _ u ih =>
    rw [Lib.decDigits]
    split
    · have := d8_toNat u (by omega)
      simp only [val, valA, List.foldl_cons, List.foldl_nil]
      omega
    · have := d8_toNat (u % 10) (by omega)
      rw [val_snoc, ih (u / 10) (by omega)]
      omega
theorem dec_ne (u : Nat) : Lib.decDigits u ≠ [] := by
  rw [Lib.decDigits]
  split <;> simp
theorem dec_cons (u : Nat) : ∃ c r, Lib.decDigits u = c :: r ∧ isDig c = true := by
  cases h : Lib.decDigits u with
  | nil => exact absurd h (dec_ne u)
  | cons c r => exact ⟨c, r, rfl, dec_dig u c (by rw [h]; exact List.mem_cons_self)⟩
theorem dec_len (u : Nat) (h : u ≤ 1048577) : (Lib.decDigits u).length ≤ 7 := by
  rw [Lib.decDigits_length]
  rcases Nat.lt_or_ge u 10 with h1 | h1
  · rw [Lib.nDigits_small h1]; omega
  rcases Nat.lt_or_ge u 100 with h2 | h2
  · rw [Lib.nDigits_unique 1 u (by omega) (by omega)]; omega
  rcases Nat.lt_or_ge u 1000 with h3 | h3
  · rw [Lib.nDigits_unique 2 u (by omega) (by omega)]; omega
  rcases Nat.lt_or_ge u 10000 with h4 | h4
  · rw [Lib.nDigits_unique 3 u (by omega) (by omega)]; omega
  rcases Nat.lt_or_ge u 100000 with h5 | h5
  · rw [Lib.nDigits_unique 4 u (by omega) (by omega)]; omega
  rcases Nat.lt_or_ge u 1000000 with h6 | h6
  · rw [Lib.nDigits_unique 5 u (by omega) (by omega)]; omega
  · rw [Lib.nDigits_unique 6 u (by omega) (by omega)]; omega
theorem dec_no (u : Nat) (x : UInt8) (hx : isDig x = false) : x ∉ Lib.decDigits u := fun h => by
  rw [dec_dig u x h] at hx; cases hx

theorem valA_lt : ∀ (l : Bs), (∀ c ∈ l, isDig c = true) → ∀ a : Nat, valA a l < (a + 1) * 10 ^ l.length
  | [], _, a => by simp [valA]
  | c :: l, h, a => by
    have h2 : 48 ≤ c.toNat ∧ c.toNat ≤ 57 := by simpa [isDig] using h c List.mem_cons_self
    have ih := valA_lt l (fun x hx => h x (List.mem_cons_of_mem _ hx)) (a * 10 + (c.toNat - 48))
    have hm : (a * 10 + (c.toNat - 48) + 1) * 10 ^ l.length ≤ ((a + 1) * 10) * 10 ^ l.length := Nat.mul_le_mul_right _ (by omega)
    have e : valA a (c :: l) = valA (a * 10 + (c.toNat - 48)) l := rfl
    rw [e, List.length_cons, Nat.pow_succ, Nat.mul_comm (10 ^ l.length) 10, ← Nat.mul_assoc]
    omega
theorem val_lt8 (l : Bs) (h : ∀ c ∈ l, isDig c = true) (hl : l.length ≤ 8) : val l < 100000000 := by
  have h1 := valA_lt l h 0
  have h2 := Nat.pow_le_pow_right (n := 10) (by omega) hl
  unfold val
  omega

/-! The library's reader of one number. -/
theorem uint_dig : ∀ (l : Bs) (a : Nat), (∀ c ∈ l, isDig c = true) → valA a l < 1000000000000 → Lib.parseUint10 a l = .ok (valA a l)
  | [], a, _, _ => rfl
  | c :: r, a, h, hv => by
    have hc : 48 ≤ c.toNat ∧ c.toNat ≤ 57 := by simpa [isDig] using h c List.mem_cons_self
    have e : valA a (c :: r) = valA (a * 10 + (c.toNat - 48)) r := rfl
    rw [e] at hv ⊢
    have hg := valA_ge r (a * 10 + (c.toNat - 48))
    rw [Lib.parseUint10, if_pos hc, if_neg (by omega), if_neg (by omega)]
    exact uint_dig r _ (fun x hx => h x (List.mem_cons_of_mem _ hx)) hv
theorem atoi_dec (u : Nat) (h : u ≤ 1048577) : Lib.atoiAll (Lib.decDigits u) = .ok (u : Int) := by
  obtain ⟨c, r, e, hc⟩ := dec_cons u
  have hc' : 48 ≤ c.toNat ∧ c.toNat ≤ 57 := by simpa [isDig] using hc
  have hm : Lib.parseMag (c :: r) = .ok u := by
    unfold Lib.parseMag
    rw [if_neg (by simp), uint_dig _ 0 (fun x hx => dec_dig u x (by rw [e]; exact hx)) (by
      have := dec_val u
      rw [e] at this
      unfold val at this
      omega)]
    have := dec_val u
    rw [e] at this
    unfold val at this
    rw [this]
  rw [e]
  unfold Lib.atoiAll
  simp only
  rw [if_neg (by omega), hm]
  simp only
  rw [if_neg (by omega), if_neg (by omega), if_neg (by omega)]
theorem itoa_dec (n : Int) (h : 0 ≤ n) : Lib.itoa n = Lib.decDigits n.toNat := by
  unfold Lib.itoa; rw [if_neg (by omega)]

/-! Finding one byte. -/
theorem index_miss (c : UInt8) : ∀ l : Bs, c ∉ l → Lib.index l [c] = -1
  | [], _ => rfl
  | b :: l, h => by
    have hb : ¬ c = b := fun e => h (by rw [e]; exact List.mem_cons_self)
    have ih := index_miss c l (fun hm => h (List.mem_cons_of_mem _ hm))
    unfold Lib.index
    rw [if_neg (by simp [List.isPrefixOf, hb]), ih]
    rfl
theorem index_hit (c : UInt8) : ∀ (l r : Bs), c ∉ l → Lib.index (l ++ c :: r) [c] = (l.length : Int)
  | [], r, _ => by
    simp only [List.nil_append, List.length_nil]
    unfold Lib.index
    rw [if_pos (by simp [List.isPrefixOf])]
    rfl
  | b :: l, r, h => by
    have hb : ¬ c = b := fun e => h (by rw [e]; exact List.mem_cons_self)
    have ih := index_hit c l r (fun hm => h (List.mem_cons_of_mem _ hm))
    rw [List.cons_append]
    unfold Lib.index
    rw [if_neg (by simp [List.isPrefixOf, hb]), ih, if_neg (by rw [beq_iff_eq]; omega)]
    simp
theorem cut_miss (c : UInt8) (l : Bs) (h : c ∉ l) : Lib.cut l [c] = (l, [], false) := by
  unfold Lib.cut; rw [index_miss c l h, if_neg (by omega)]
theorem cut_hit (c : UInt8) (l r : Bs) (h : c ∉ l) : Lib.cut (l ++ c :: r) [c] = (l, r, true) := by
  unfold Lib.cut
  rw [index_hit c l r h, if_pos (by omega)]
  simp
/-- Cutting at every comma undoes the joining. -/
theorem split_join : ∀ (xs : List Bs) (x : Bs), (∀ y ∈ x :: xs, (44 : UInt8) ∉ y) → Lib.split (Lib.join (x :: xs) [44]) [44] = x :: xs
  | [], x, h => by
    rw [Lib.join_one]
    have hx := h x List.mem_cons_self
    unfold Lib.split
    rw [Lib.count_one, List.count_eq_zero.2 hx]
    rfl
  | y :: ys, x, h => by
    have hx := h x List.mem_cons_self
    have ih := split_join ys y (fun z hz => h z (List.mem_cons_of_mem _ hz))
    have e : Lib.join (x :: y :: ys) [44] = x ++ 44 :: Lib.join (y :: ys) [44] := by
      rw [Lib.join_cons, Lib.join_cons, Lib.joinTail]
      simp [Lib.joinTail]
    rw [e]
    unfold Lib.split at ih ⊢
    rw [Lib.count_one] at ih ⊢
    rw [List.count_append, List.count_eq_zero.2 hx, List.count_cons_self, Nat.zero_add]
    rw [Lib.splitK, index_hit 44 x _ hx, if_neg (by rw [beq_iff_eq]; omega)]
    simp only [Int.toNat_natCast, List.length_cons, List.length_nil, Nat.zero_add, Nat.add_zero]
    rw [List.take_left, show List.drop (x.length + 1) (x ++ 44 :: Lib.join (y :: ys) [44]) = Lib.join (y :: ys) [44] by
      rw [List.drop_append]; simp]
    rw [ih]

/-- The text of a span. -/
def spanL (s : Sp) : Bs :=
  if s.2 - s.1 = 1 then Lib.itoa s.1 else if s.2 = 1048577 then Lib.itoa s.1 ++ [43] else Lib.itoa s.1 ++ 45 :: Lib.itoa (s.2 - 1)
/-- The texts of the spans, joined. -/
def joinL (R : List Sp) : Bs := Lib.join (R.map spanL) [44]
def never : Bs := [110, 101, 118, 101, 114]
def txtL (R : List Sp) : Bs := if R = [] then never else joinL R

/-- A span that a canonical list may hold. -/
def Ok (s : Sp) : Prop := 0 ≤ s.1 ∧ s.1 < s.2 ∧ s.2 ≤ 1048577
theorem sep_mem : ∀ (R : List Sp) (lo : Int), -1 ≤ lo → SepL lo R → ∀ s ∈ R, Ok s
  | [], _, _, _, s, hs => by cases hs
  | x :: r, lo, hlo, h, s, hs => by
    obtain ⟨h1, h2, h3, h4⟩ := h
    rcases List.mem_cons.1 hs with e | e
    · subst e; exact ⟨by omega, h2, h3⟩
    · exact sep_mem r x.2 (by omega) h4 s e

/-- What parseSpan finds in a text. -/
def pspan (p : Bs) : Option Sp :=
  let a := Lib.trimSuffix p [43]
  let c := Lib.cut a [45]
  match Lib.atoiAll c.1 with
  | .ok v => if Lib.hasSuffix p [43] then some (v, 1048577) else if c.2.2 then (match Lib.atoiAll c.2.1 with
      | .ok u => some (v, RowKit.wrap64 (u + 1))
      | _ => none) else some (v, RowKit.wrap64 (v + 1))
  | _ => none
theorem suffix_no (l : Bs) (c : UInt8) (h : c ∉ l) : Lib.hasSuffix l [c] = false := by
  unfold Lib.hasSuffix
  rw [Bool.eq_false_iff]
  intro hs
  rw [List.isSuffixOf_iff_suffix] at hs
  obtain ⟨t, ht⟩ := hs
  exact h (by rw [← ht]; simp)
theorem trim_no (l : Bs) (c : UInt8) (h : c ∉ l) : Lib.trimSuffix l [c] = l := by
  unfold Lib.trimSuffix; rw [suffix_no l c h]; rfl
theorem suffix_yes (l : Bs) (c : UInt8) : Lib.hasSuffix (l ++ [c]) [c] = true := by
  unfold Lib.hasSuffix
  rw [List.isSuffixOf_iff_suffix]
  exact ⟨l, rfl⟩
theorem trim_yes (l : Bs) (c : UInt8) : Lib.trimSuffix (l ++ [c]) [c] = l := by
  unfold Lib.trimSuffix; rw [suffix_yes l c]; simp
theorem wrap_small (n : Int) (h0 : 0 ≤ n) (h1 : n ≤ 2000000) : RowKit.wrap64 n = n := by
  unfold RowKit.wrap64; omega
theorem pspan_txt (s : Sp) (h : Ok s) : pspan (spanL s) = some s := by
  obtain ⟨f, t⟩ := s
  obtain ⟨h0, h1, h2⟩ := h
  simp only at h0 h1 h2
  have no : ∀ (u : Nat) (x : UInt8), isDig x = false → x ∉ Lib.decDigits u := dec_no
  have a1 := atoi_dec f.toNat (by omega)
  have a2 := atoi_dec (t - 1).toNat (by omega)
  rw [Int.toNat_of_nonneg h0] at a1
  rw [Int.toNat_of_nonneg (show 0 ≤ t - 1 by omega)] at a2
  unfold spanL pspan
  simp only
  rw [itoa_dec f h0, itoa_dec (t - 1) (by omega)]
  by_cases c1 : t - f = 1
  · rw [if_pos c1, trim_no _ 43 (no _ _ (by decide)), suffix_no _ 43 (no _ _ (by decide)), cut_miss 45 _ (no _ _ (by decide))]
    simp only
    rw [a1]
    simp only [Bool.false_eq_true, if_false]
    rw [wrap_small (f + 1) (by omega) (by omega)]
    congr 2
    omega
  · rw [if_neg c1]
    by_cases c2 : t = 1048577
    · rw [if_pos c2, trim_yes, suffix_yes, cut_miss 45 _ (no _ _ (by decide))]
      simp only
      rw [a1]
      simp [c2]
    · rw [if_neg c2]
      have n43 : (43 : UInt8) ∉ Lib.decDigits f.toNat ++ 45 :: Lib.decDigits (t - 1).toNat := by
        intro hm
        rcases List.mem_append.1 hm with e | e
        · exact no _ _ (by decide) e
        · rcases List.mem_cons.1 e with e | e
          · exact absurd e (by decide)
          · exact no _ _ (by decide) e
      rw [trim_no _ 43 n43, suffix_no _ 43 n43, cut_hit 45 _ _ (no _ _ (by decide))]
      simp only
      rw [a1]
      simp only [Bool.false_eq_true, if_false, if_true]
      rw [a2]
      simp only
      rw [wrap_small (t - 1 + 1) (by omega) (by omega), Int.sub_add_cancel]
theorem spanL_no44 (s : Sp) (h : Ok s) : (44 : UInt8) ∉ spanL s := by
  obtain ⟨h0, h1, h2⟩ := h
  unfold spanL
  rw [itoa_dec s.1 h0, itoa_dec (s.2 - 1) (by omega)]
  have no : ∀ (u : Nat), (44 : UInt8) ∉ Lib.decDigits u := fun u => dec_no u 44 (by decide)
  split
  · exact no _
  · split
    · intro hm
      rcases List.mem_append.1 hm with e | e
      · exact no _ e
      · exact absurd (List.mem_singleton.1 e) (by decide)
    · intro hm
      rcases List.mem_append.1 hm with e | e
      · exact no _ e
      · rcases List.mem_cons.1 e with e | e
        · exact absurd e (by decide)
        · exact no _ e

/-! What a text says of the list that it stands for. -/
/-- The text stands for no list but perhaps the empty one. -/
def Nope (s : Bs) : Prop := ∀ R, SepL (-1) R → R ≠ [] → joinL R = s → False
/-- The text stands for no list but this one. -/
def Sole (s : Bs) (L : List Sp) : Prop := ∀ R, SepL (-1) R → R ≠ [] → joinL R = s → R = L
theorem split_txt (R : List Sp) (h : SepL (-1) R) (hne : R ≠ []) : Lib.split (joinL R) [44] = R.map spanL := by
  cases R with
  | nil => exact absurd rfl hne
  | cons x r =>
    unfold joinL
    rw [List.map_cons]
    exact split_join _ _ fun y hy => by
      rw [← List.map_cons] at hy
      obtain ⟨s, hs, rfl⟩ := List.mem_map.1 hy
      exact spanL_no44 s (sep_mem _ (-1) (by omega) h s hs)
theorem nope_piece (s : Bs) (k : Nat) (p : Bs) (hp : (Lib.split s [44])[k]? = some p) (hn : pspan p = none) : Nope s := fun R h hne e => by
  subst e
  rw [split_txt R h hne, List.getElem?_map, Option.map_eq_some_iff] at hp
  obtain ⟨x, hx, rfl⟩ := hp
  rw [pspan_txt x (sep_mem R (-1) (by omega) h x (List.mem_of_getElem? hx))] at hn
  cases hn
theorem sole_pieces (s : Bs) (L : List Sp) (hp : (Lib.split s [44]).map pspan = L.map some) : Sole s L := fun R h hne e => by
  subst e
  rw [split_txt R h hne, List.map_map] at hp
  have : R.map (pspan ∘ spanL) = R.map some := List.map_congr_left fun x hx => pspan_txt x (sep_mem R (-1) (by omega) h x hx)
  rw [this] at hp
  exact (List.map_inj_right (fun _ _ h => Option.some.inj h)).1 hp
theorem never_not (R : List Sp) (h : SepL (-1) R) (hne : R ≠ []) : joinL R ≠ never := fun e => by
  cases R with
  | nil => exact hne rfl
  | cons x r =>
    have hx := sep_mem _ (-1) (by omega) h x List.mem_cons_self
    unfold joinL at e
    rw [List.map_cons, Lib.join_cons] at e
    obtain ⟨c, q, ec, hc⟩ := dec_cons x.1.toNat
    have : ∃ q', spanL x = c :: q' := by
      unfold spanL
      rw [itoa_dec x.1 hx.1, ec]
      split
      · exact ⟨_, rfl⟩
      · split <;> exact ⟨_, rfl⟩
    obtain ⟨q', e2⟩ := this
    rw [e2] at e
    unfold never at e
    injection e with e3 _
    subst e3
    exact absurd hc (by decide)
theorem txt_inj (R S : List Sp) (hR : SepL (-1) R) (hS : SepL (-1) S) (h : txtL R = txtL S) : R = S := by
  unfold txtL at h
  by_cases c1 : R = []
  · by_cases c2 : S = []
    · rw [c1, c2]
    · rw [if_pos c1, if_neg c2] at h
      exact absurd h.symm (never_not S hS c2)
  · by_cases c2 : S = []
    · rw [if_neg c1, if_pos c2] at h
      exact absurd h (never_not R hR c1)
    · rw [if_neg c1, if_neg c2] at h
      have h1 := split_txt R hR c1
      rw [h] at h1
      exact sole_pieces (joinL S) R (by rw [h1, List.map_map]; exact List.map_congr_left fun x hx => pspan_txt x (sep_mem R (-1) (by omega) hR x hx)) S hS c2 rfl |>.symm

/-! Reading from the front. -/
/-- The digits at the front of a list, eight at most, are m. -/
def Run (l : Bs) (m : Nat) : Prop := m ≤ 8 ∧ m ≤ l.length ∧ (∀ c ∈ l.take m, isDig c = true) ∧ (m = 8 ∨ ∀ c, l[m]? = some c → isDig c = false)
theorem run_dec (u : Nat) (x : Bs) (m : Nat) (hu : u ≤ 1048577) (hx : ∀ c, x[0]? = some c → isDig c = false) (h : Run (Lib.decDigits u ++ x) m) : m = (Lib.decDigits u).length := by
  obtain ⟨h1, h2, h3, h4⟩ := h
  have hl := dec_len u hu
  rcases Nat.lt_trichotomy m (Lib.decDigits u).length with hm | hm | hm
  · rcases h4 with h4 | h4
    · omega
    · have := h4 (Lib.decDigits u)[m] (by rw [List.getElem?_append_left hm, List.getElem?_eq_getElem hm])
      rw [dec_dig u _ (List.getElem_mem hm)] at this
      cases this
  · exact hm
  · exfalso
    rw [List.length_append] at h2
    have h0 : 0 < x.length := by omega
    have e := hx x[0] (List.getElem?_eq_getElem h0)
    have := h3 x[0] (by
      rw [List.take_append, List.mem_append]
      refine Or.inr ?_
      rw [show m - (Lib.decDigits u).length = (m - (Lib.decDigits u).length - 1) + 1 by omega]
      cases x with
      | nil => simp at h0
      | cons a b => simp)
    rw [e] at this
    cases this
/-- What stands behind the first spans. -/
def tailL (r : List Sp) : Bs := Lib.joinTail [44] (r.map spanL)
theorem joinL_cons (x : Sp) (r : List Sp) : joinL (x :: r) = spanL x ++ tailL r := by unfold joinL tailL; rw [List.map_cons, Lib.join_cons]
theorem tailL_cons (x : Sp) (r : List Sp) : tailL (x :: r) = 44 :: joinL (x :: r) := by
  rw [joinL_cons]; unfold tailL Lib.joinTail; simp
theorem tailL_head (r : List Sp) (c : UInt8) (h : (tailL r)[0]? = some c) : c = 44 := by
  cases r with
  | nil => simp [tailL, Lib.joinTail] at h
  | cons x r => rw [tailL_cons] at h; simpa using h.symm
/-- The reader stands at the front of a span, having read K. -/
def Good (s : Bs) (K : List Sp) (l : Bs) : Prop := ∀ R, SepL (-1) R → R ≠ [] → joinL R = s → ∃ x r, R = K ++ x :: r ∧ Ok x ∧ l = spanL x ++ tailL r
/-- The reader has read x besides, and l is what is left. -/
def Mid (s : Bs) (K : List Sp) (x : Sp) (l : Bs) : Prop := ∀ R, SepL (-1) R → R ≠ [] → joinL R = s → ∃ r, R = K ++ x :: r ∧ l = tailL r
theorem good_start (s : Bs) : Good s [] s := fun R h hne e => by
  cases R with
  | nil => exact absurd rfl hne
  | cons x r => exact ⟨x, r, rfl, sep_mem _ (-1) (by omega) h x List.mem_cons_self, by rw [← e, joinL_cons]⟩
/-- A span's text begins with the digits of its first day; what follows says of which of the three kinds it is. -/
theorem span_front (x : Sp) (h : Ok x) (t : Bs) : ∃ y, spanL x ++ t = Lib.decDigits x.1.toNat ++ y ∧
    ((x.2 = x.1 + 1 ∧ y = t) ∨ (x.2 = 1048577 ∧ y = 43 :: t) ∨ (y = 45 :: (Lib.decDigits (x.2 - 1).toNat ++ t))) := by
  obtain ⟨h0, h1, h2⟩ := h
  unfold spanL
  rw [itoa_dec x.1 h0, itoa_dec (x.2 - 1) (by omega)]
  split
  · exact ⟨t, rfl, Or.inl ⟨by omega, rfl⟩⟩
  · split
    · exact ⟨43 :: t, by simp, Or.inr (Or.inl ⟨by assumption, rfl⟩)⟩
    · exact ⟨45 :: (Lib.decDigits (x.2 - 1).toNat ++ t), by simp, Or.inr (Or.inr rfl)⟩
theorem front_nodig (x : Sp) (r : List Sp) (y : Bs) (hy : (x.2 = x.1 + 1 ∧ y = tailL r) ∨ (x.2 = 1048577 ∧ y = 43 :: tailL r) ∨ (y = 45 :: (Lib.decDigits (x.2 - 1).toNat ++ tailL r))) : ∀ c, y[0]? = some c → isDig c = false := fun c hc => by
  rcases hy with ⟨_, e⟩ | ⟨_, e⟩ | e
  · subst e; rw [tailL_head r c hc]; decide
  · subst e; simp at hc; subst hc; decide
  · subst e; simp at hc; subst hc; decide
/-- The first number, and what follows it. -/
theorem good_front {s : Bs} {K : List Sp} {l : Bs} {m : Nat} (hg : Good s K l) (hr : Run l m) (R : List Sp) (h : SepL (-1) R) (hne : R ≠ []) (e : joinL R = s) :
    ∃ x r y, R = K ++ x :: r ∧ Ok x ∧ 0 < m ∧ (val (l.take m) : Int) = x.1 ∧ l.drop m = y ∧ ((x.2 = x.1 + 1 ∧ y = tailL r) ∨ (x.2 = 1048577 ∧ y = 43 :: tailL r) ∨ (y = 45 :: (Lib.decDigits (x.2 - 1).toNat ++ tailL r))) := by
  obtain ⟨x, r, e1, hx, e2⟩ := hg R h hne e
  obtain ⟨y, e3, hy⟩ := span_front x hx (tailL r)
  have e4 := e2.trans e3
  have hm : m = (Lib.decDigits x.1.toNat).length := run_dec _ y m (by obtain ⟨a, b, c⟩ := hx; omega) (front_nodig x r y hy) (by rw [← e4]; exact hr)
  refine ⟨x, r, y, e1, hx, ?_, ?_, ?_, hy⟩
  · rw [hm]; exact List.length_pos_iff.2 (dec_ne _)
  · rw [e4, hm, List.take_left, dec_val, Int.toNat_of_nonneg hx.1]
  · rw [e4, hm, List.drop_left]
theorem good_zero {s : Bs} {K : List Sp} {l : Bs} (hg : Good s K l) (hr : Run l 0) : Nope s := fun R h hne e => by
  obtain ⟨_, _, _, _, _, h0, _⟩ := good_front hg hr R h hne e
  omega
theorem good_plus {s : Bs} {K : List Sp} {l q : Bs} {m : Nat} (hg : Good s K l) (hr : Run l m) (hq : l.drop m = 43 :: q) : Mid s K (val (l.take m), 1048577) q := fun R h hne e => by
  obtain ⟨x, r, y, e1, hx, h0, hv, hd, hy⟩ := good_front hg hr R h hne e
  rw [hq] at hd
  rcases hy with ⟨_, e⟩ | ⟨e2, e⟩ | e
  · rw [e] at hd
    have := tailL_head r 43 (by rw [← hd]; rfl)
    exact absurd this (by decide)
  · rw [e] at hd
    injection hd with _ hd
    refine ⟨r, ?_, hd⟩
    rw [e1, hv, ← e2]
  · rw [e] at hd
    injection hd with hd _
    exact absurd hd (by decide)
theorem good_minus {s : Bs} {K : List Sp} {l q : Bs} {m m2 : Nat} (hg : Good s K l) (hr : Run l m) (hq : l.drop m = 45 :: q) (hr2 : Run q m2) (R : List Sp) (h : SepL (-1) R) (hne : R ≠ []) (e : joinL R = s) :
    0 < m2 ∧ ∃ r, R = K ++ ((val (l.take m) : Int), (val (q.take m2) : Int) + 1) :: r ∧ q.drop m2 = tailL r := by
  obtain ⟨x, r, y, e1, hx, h0, hv, hd, hy⟩ := good_front hg hr R h hne e
  rw [hq] at hd
  rcases hy with ⟨_, e⟩ | ⟨e2, e⟩ | e
  · rw [e] at hd
    have := tailL_head r 45 (by rw [← hd]; rfl)
    exact absurd this (by decide)
  · rw [e] at hd
    injection hd with hd _
    exact absurd hd (by decide)
  · rw [e] at hd
    injection hd with _ hd
    obtain ⟨a1, a2, a3⟩ := hx
    have hm : m2 = (Lib.decDigits (x.2 - 1).toNat).length := run_dec _ (tailL r) m2 (by omega) (fun c hc => by rw [tailL_head r c hc]; decide) (by rw [← hd]; exact hr2)
    refine ⟨by rw [hm]; exact List.length_pos_iff.2 (dec_ne _), r, ?_, by rw [hd, hm, List.drop_left]⟩
    rw [hd, hm, List.take_left, dec_val, Int.toNat_of_nonneg (show 0 ≤ x.2 - 1 by omega), e1, hv, Int.sub_add_cancel]
theorem good_minus0 {s : Bs} {K : List Sp} {l q : Bs} {m : Nat} (hg : Good s K l) (hr : Run l m) (hq : l.drop m = 45 :: q) (hr2 : Run q 0) : Nope s := fun R h hne e => by
  have := (good_minus hg hr hq hr2 R h hne e).1
  omega
theorem good_minus1 {s : Bs} {K : List Sp} {l q : Bs} {m m2 : Nat} (hg : Good s K l) (hr : Run l m) (hq : l.drop m = 45 :: q) (hr2 : Run q m2) : Mid s K ((val (l.take m) : Int), (val (q.take m2) : Int) + 1) (q.drop m2) := fun R h hne e =>
  (good_minus hg hr hq hr2 R h hne e).2
theorem good_one {s : Bs} {K : List Sp} {l : Bs} {m : Nat} (hg : Good s K l) (hr : Run l m) (hq : ∀ c, (l.drop m)[0]? = some c → c ≠ 43 ∧ c ≠ 45) : Mid s K ((val (l.take m) : Int), (val (l.take m) : Int) + 1) (l.drop m) := fun R h hne e => by
  obtain ⟨x, r, y, e1, hx, h0, hv, hd, hy⟩ := good_front hg hr R h hne e
  rcases hy with ⟨e2, e⟩ | ⟨e2, e⟩ | e
  · refine ⟨r, ?_, by rw [hd, e]⟩
    rw [e1, hv, ← e2]
  · exact absurd rfl (hq 43 (by rw [hd, e]; rfl)).1
  · exact absurd rfl (hq 45 (by rw [hd, e]; rfl)).2
theorem mid_end {s : Bs} {K : List Sp} {x : Sp} (h : Mid s K x []) : Sole s (K ++ [x]) := fun R hR hne e => by
  obtain ⟨r, e1, e2⟩ := h R hR hne e
  cases r with
  | nil => exact e1
  | cons a b => rw [tailL_cons] at e2; cases e2
theorem mid_bad {s : Bs} {K : List Sp} {x : Sp} {c : UInt8} {q : Bs} (h : Mid s K x (c :: q)) (hc : c ≠ 44) : Nope s := fun R hR hne e => by
  obtain ⟨r, e1, e2⟩ := h R hR hne e
  exact hc (tailL_head r c (by rw [← e2]; rfl))
theorem mid_next {s : Bs} {K : List Sp} {x : Sp} {q : Bs} (h : Mid s K x (44 :: q)) : Good s (K ++ [x]) q := fun R hR hne e => by
  obtain ⟨r, e1, e2⟩ := h R hR hne e
  cases r with
  | nil => simp [tailL, Lib.joinTail] at e2
  | cons a b =>
    rw [tailL_cons] at e2
    injection e2 with _ e2
    exact ⟨a, b, by rw [e1]; simp, sep_mem R (-1) (by omega) hR a (by rw [e1]; simp), by rw [e2, joinL_cons]⟩
end Spans
end Go.Proofs.YtplphinaeikpmaaGreatDoor
