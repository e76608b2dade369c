/-
  Cutting a text at its spaces: the mathematics, and the contract of strings.Split.
-/
import Derived.Lib.SplitLaws
import Derived.Lib.Join
import Derived.Test.YtphehcbjegfifaaDoorJn
namespace Go.Proofs.YtphehcbjegfifaaDoor
open Go.RowKit (wrap32 wrap64 intOf Hid Below)
open Occ

theorem index_miss (c : UInt8) : ∀ l : List UInt8, c ∉ l → Lib.index l [c] = -1
  | [], _ => rfl
  | b :: l, h => by
    have hb : ¬ c = b := fun e => h (by rw [e]; exact List.mem_cons_self)
    have ih := index_miss c l (fun hm => h (List.mem_cons_of_mem _ hm))
    unfold Lib.index
    rw [if_neg (by simp [List.isPrefixOf, hb]), ih]
    rfl
theorem index_hit (c : UInt8) : ∀ (l r : List UInt8), c ∉ l → Lib.index (l ++ c :: r) [c] = (l.length : Int)
  | [], r, _ => by
    simp only [List.nil_append, List.length_nil]
    unfold Lib.index
    rw [if_pos (by simp [List.isPrefixOf])]
    rfl
  | b :: l, r, h => by
    have hb : ¬ c = b := fun e => h (by rw [e]; exact List.mem_cons_self)
    have ih := index_hit c l r (fun hm => h (List.mem_cons_of_mem _ hm))
    rw [List.cons_append]
    unfold Lib.index
    rw [if_neg (by simp [List.isPrefixOf, hb]), ih, if_neg (by rw [beq_iff_eq]; omega)]
    simp
theorem split_join : ∀ (xs : List (List UInt8)) (x : List UInt8), (∀ y ∈ x :: xs, (32 : UInt8) ∉ y) → Lib.split (Lib.join (x :: xs) [32]) [32] = x :: xs
  | [], x, h => by
    rw [Lib.join_one]
    have hx := h x List.mem_cons_self
    unfold Lib.split
    rw [Lib.count_one, List.count_eq_zero.2 hx]
    rfl
  | y :: ys, x, h => by
    have hx := h x List.mem_cons_self
    have ih := split_join ys y (fun z hz => h z (List.mem_cons_of_mem _ hz))
    have e : Lib.join (x :: y :: ys) [32] = x ++ 32 :: Lib.join (y :: ys) [32] := by
      rw [Lib.join_cons, Lib.join_cons, Lib.joinTail]
      simp [Lib.joinTail]
    rw [e]
    unfold Lib.split at ih ⊢
    rw [Lib.count_one] at ih ⊢
    rw [List.count_append, List.count_eq_zero.2 hx, List.count_cons_self, Nat.zero_add]
    rw [Lib.splitK, index_hit 32 x _ hx, if_neg (by rw [beq_iff_eq]; omega)]
    simp only [Int.toNat_natCast, List.length_cons, List.length_nil, Nat.zero_add, Nat.add_zero]
    rw [List.take_left, show List.drop (x.length + 1) (x ++ 32 :: Lib.join (y :: ys) [32]) = Lib.join (y :: ys) [32] by
      rw [List.drop_append]; simp]
    rw [ih]
/-- Pieces, each with a space behind it. -/
def flat (O : List (List UInt8)) : List UInt8 := O.flatMap fun p => p ++ [32]
theorem flat_snoc (O : List (List UInt8)) (p : List UInt8) : flat (O ++ [p]) = flat O ++ (p ++ [32]) := by simp [flat]
theorem join_flat : ∀ (O : List (List UInt8)) (x : List UInt8), Lib.join (O ++ [x]) [32] = flat O ++ x
  | [], x => by
    rw [List.nil_append, Lib.join_one]; rfl
  | o :: O, x => by
    have ih := join_flat O x
    cases O with
    | nil =>
      rw [List.cons_append, List.nil_append, Lib.join_cons]
      simp [Lib.joinTail, flat]
    | cons y ys =>
      rw [List.cons_append, List.cons_append, Lib.join_cons]
      rw [List.cons_append, Lib.join_cons] at ih
      have e : flat (o :: y :: ys) = o ++ [32] ++ flat (y :: ys) := by simp [flat]
      rw [e, List.append_assoc, ← ih]
      simp [Lib.joinTail]
/-- How a text falls into pieces. -/
def Falls (s : List UInt8) (O : List (List UInt8)) (x : List UInt8) : Prop := s = flat O ++ x ∧ (∀ p ∈ O, (32 : UInt8) ∉ p) ∧ (32 : UInt8) ∉ x
theorem Falls.split {s : List UInt8} {O : List (List UInt8)} {x : List UInt8} (h : Falls s O x) : Lib.split s [32] = O ++ [x] := by
  obtain ⟨hs, hO, hx⟩ := h
  rw [hs, ← join_flat]
  have hall : ∀ y ∈ O ++ [x], (32 : UInt8) ∉ y := fun y hy => by
    rcases List.mem_append.1 hy with h | h
    · exact hO y h
    · rw [List.mem_singleton.1 h]; exact hx
  cases O with
  | nil => exact split_join [] x hall
  | cons o O => exact split_join (O ++ [x]) o hall
theorem falls : ∀ s : List UInt8, ∃ O x, Falls s O x
  | [] => ⟨[], [], rfl, by simp, by simp⟩
  | c :: s => by
    obtain ⟨O, x, hs, hO, hx⟩ := falls s
    by_cases hc : c = 32
    · exact ⟨[] :: O, x, by rw [hs, hc]; simp [flat], fun p hp => by
        rcases List.mem_cons.1 hp with rfl | h
        · simp
        · exact hO p h, hx⟩
    · cases O with
      | nil => exact ⟨[], c :: x, by rw [hs]; simp [flat], by simp, by
          intro h
          rcases List.mem_cons.1 h with h | h
          · exact hc h.symm
          · exact hx h⟩
      | cons o O => exact ⟨(c :: o) :: O, x, by rw [hs]; simp [flat], fun p hp => by
          rcases List.mem_cons.1 hp with rfl | h
          · intro h
            rcases List.mem_cons.1 h with h | h
            · exact hc h.symm
            · exact hO o List.mem_cons_self h
          · exact hO p (List.mem_cons_of_mem _ h), hx⟩
theorem join_split (s : List UInt8) : Lib.join (Lib.split s [32]) [32] = s := by
  obtain ⟨O, x, h⟩ := falls s
  rw [h.split, join_flat, ← h.1]

/-- The pieces of a text between its spaces. -/
def pcs (s : Str) : List Str := Lib.splitB ⟨#[32]⟩ 0 (Lib.countB s ⟨#[32]⟩) s
theorem pcs_len (s : Str) : (pcs s).length = Lib.countB s ⟨#[32]⟩ + 1 := Lib.splitB_all ⟨#[32]⟩ (by decide) 0 _ s rfl
theorem pcs_le (s : Str) : (pcs s).length ≤ s.size + 1 := by
  rw [pcs_len]
  have := Lib.countB_le ⟨#[32]⟩ (by decide) s.size s (Nat.le_refl _)
  omega
theorem pcs_list (s : Str) : (pcs s).map (·.data.toList) = Lib.split s.data.toList [32] := Lib.splitB_data ⟨#[32]⟩ 0 _ s
theorem map_inj : ∀ {a b : List Str}, a.map (·.data.toList) = b.map (·.data.toList) → a = b
  | [], [], _ => rfl
  | [], _ :: _, h => by simp at h
  | _ :: _, [], h => by simp at h
  | x :: a, y :: b, h => by
    simp only [List.map_cons, List.cons.injEq] at h
    have e : x = y := by rw [eq_mkB h.1]; exact (eq_mkB rfl).symm
    rw [e, map_inj h.2]
theorem pcs_of {s : Str} {O : List (List UInt8)} {x : List UInt8} (h : Falls s.data.toList O x) : pcs s = (O ++ [x]).map mkB := by
  apply map_inj
  rw [pcs_list, h.split, List.map_map]
  exact (List.map_id' _).symm
theorem join_pcs (s : Str) : joinB (pcs s) = s.data.toList := by
  unfold joinB
  rw [pcs_list, join_split]
theorem no_space {s : Str} (h : wordB s = true) : (32 : UInt8) ∉ s.data.toList := by
  unfold wordB at h
  rw [Bool.and_eq_true, List.all_eq_true] at h
  intro hm
  have := h.2 _ hm
  exact absurd this (by decide)
theorem pcs_join {L : List Str} (hne : L ≠ []) (h : ∀ s ∈ L, wordB s = true) : pcs (mkB (joinB L)) = L := by
  apply map_inj
  rw [pcs_list]
  show Lib.split (joinB L) [32] = _
  unfold joinB
  cases L with
  | nil => exact absurd rfl hne
  | cons x r =>
    rw [List.map_cons]
    refine split_join _ _ fun y hy => ?_
    have hy2 : y ∈ (x :: r).map (·.data.toList) := hy
    obtain ⟨s, hs, rfl⟩ := List.mem_map.1 hy2
    exact no_space (h s hs)

/-- The library's own variable holds some number. -/
def EnvW (w : World) : Prop := ∃ m, w.cell? ⟨0, 0, none⟩ = some (.int .i64 m)
theorem EnvW.below {w w' : World} (h : EnvW w) (hb : Below w.heap.size w w') : EnvW w' := by
  obtain ⟨m, hm⟩ := h
  exact ⟨m, (hb.cell (World.block_lt_of_cell? _ _ hm)).trans hm⟩
/-- What a cut of a text hands back. -/
def CutRet (L : List Str) (e : Ending) (w' : World) : Prop := ∃ A n c, e = .returned (.slice A n c) ∧ Sq w' A n c L
theorem ssplit_any (s : Str) (w : World) (hE : EnvW w) (hs : s.size ≤ 1000000) :
    Calls Tryd.prog 17 #[.string s, .string ⟨#[32]⟩] w fun e w' => CutRet (pcs s) e w' ∧ Below w.heap.size w w' := by
  obtain ⟨m, hm⟩ := hE
  refine (Tryd.strings_Split s ⟨#[32]⟩ m w (by omega) hm (by decide)).mono fun e w' ⟨he, hw⟩ => ?_
  subst hw
  have hle := pcs_le s
  refine ⟨⟨some ⟨w.heap.size, 0, none⟩, (pcs s).length, (pcs s).length, by rw [he, pcs_len], ?_⟩, (Below.refl _ _).alloc (Nat.le_refl _) _⟩
  refine ⟨⟨⟨sv_len _, fun _ => ⟨w.heap.size, 0, rfl, by simp, fun k u hu => ?_⟩⟩, Nat.le_refl _, by omega, by omega, Nat.le_refl _⟩, fun _ => ⟨_, _, rfl⟩⟩
  rw [Nat.zero_add, World.cell?_alloc_at _ _ _ _ rfl]
  show (((pcs s).map Value.string).toArray)[k]? = _
  rw [List.getElem?_toArray]
  exact hu

/-- The pieces, none of the empty text; the number of the error; what is handed back. -/
def pieces (s : Str) : List Str := if s = ⟨#[]⟩ then [] else pcs s
def codeB (s : Str) : Nat := if (pieces s).all wordB = true then if 256 < (pieces s).length then 6 else 0 else 2
def resB (s : Str) : List Str := if codeB s = 0 then pieces s else []
def SpRet (s : Str) (e : Ending) (w' : World) : Prop := ∃ A n c, e = .returned (.tuple #[.slice A n c, .int .i64 (codeB s : Int)]) ∧ Sq w' A n c (resB s)
theorem code_bad {s : Str} (h : (pieces s).all wordB = false) : codeB s = 2 ∧ resB s = [] := by
  have e : codeB s = 2 := by unfold codeB; rw [h]; rfl
  exact ⟨e, by unfold resB; rw [e]; rfl⟩
theorem code_many {s : Str} (h : (pieces s).all wordB = true) (h2 : 256 < (pieces s).length) : codeB s = 6 ∧ resB s = [] := by
  have e : codeB s = 6 := by unfold codeB; rw [if_pos h, if_pos h2]
  exact ⟨e, by unfold resB; rw [e]; rfl⟩
theorem code_good {s : Str} (h : (pieces s).all wordB = true) (h2 : ¬ 256 < (pieces s).length) : codeB s = 0 ∧ resB s = pieces s := by
  have e : codeB s = 0 := by unfold codeB; rw [if_pos h, if_neg h2]
  exact ⟨e, by unfold resB; rw [if_pos e]⟩
theorem code_may {s : Str} (h : codeB s = 0) : mayB (resB s) = true ∧ wantB (resB s) = s := by
  have hr : resB s = pieces s := by unfold resB; rw [if_pos h]
  have hm : mayB (pieces s) = true := by
    unfold codeB at h
    by_cases h1 : (pieces s).all wordB = true
    · rw [if_pos h1] at h
      by_cases h2 : 256 < (pieces s).length
      · rw [if_pos h2] at h; omega
      · rw [may_few (by omega)]; exact h1
    · rw [if_neg h1] at h; omega
  rw [hr]
  refine ⟨hm, ?_⟩
  unfold wantB
  rw [if_pos hm]
  unfold pieces
  by_cases h0 : s = ⟨#[]⟩
  · rw [if_pos h0, h0]; rfl
  · rw [if_neg h0, join_pcs]
    exact (eq_mkB rfl).symm
theorem code_join {L : List Str} (h : mayB L = true) : codeB (wantB L) = 0 ∧ resB (wantB L) = L := by
  have hw : wantB L = mkB (joinB L) := by unfold wantB; rw [if_pos h]
  have hall : ∀ s ∈ L, wordB s = true := by
    unfold mayB at h
    rw [Bool.and_eq_true, List.all_eq_true] at h
    exact h.2
  have hp : pieces (wantB L) = L := by
    rw [hw]
    unfold pieces
    cases L with
    | nil => exact if_pos (show mkB (joinB []) = ⟨#[]⟩ from rfl)
    | cons x r =>
      rw [if_neg ?_, pcs_join (by simp) hall]
      intro e
      have e2 : joinB (x :: r) = [] := by
        have := congrArg (fun a : ByteArray => a.data.toList) e
        exact this
      unfold joinB at e2
      rw [List.map_cons, Lib.join_cons] at e2
      have hx := hall x List.mem_cons_self
      unfold wordB at hx
      rw [Bool.and_eq_true, decide_eq_true_eq] at hx
      have h1 := hx.1.1
      have h2 : x.data.toList = [] := (List.append_eq_nil_iff.1 e2).1
      have h3 : x.size = 0 := by
        have h4 := congrArg List.length h2
        rw [Array.length_toList] at h4
        exact h4
      omega
  have h256 : L.length ≤ 256 := (may_parts h).1
  have hA : (pieces (wantB L)).all wordB = true := by rw [hp, List.all_eq_true]; exact hall
  have := code_good hA (by rw [hp]; omega)
  rw [hp] at this
  exact this
end Go.Proofs.YtphehcbjegfifaaDoor
