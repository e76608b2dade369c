/-
  Counting the days of sets: the size of a canonical list is the number of valid days in the set; linear relations between sizes.
-/
import Derived.Test.YtkiafejjcchofaaDoorLawBds
namespace Go.Proofs.YtkiafejjcchofaaDoor
open Go.RowKit (wrap32 wrap64 intOf Hid Below)
open Spans

/-- One for a member, else nothing. -/
def one (b : Bool) : Int := if b then 1 else 0
/-- How many of the n days from a on are in the set. -/
def cI (P : Int → Bool) (a : Int) : Nat → Int
  | 0 => 0
  | n + 1 => cI P a n + one (P (a + n))
theorem cI_congr (P Q : Int → Bool) (a : Int) : ∀ n : Nat, (∀ d, a ≤ d → d < a + n → P d = Q d) → cI P a n = cI Q a n
  | 0, _ => rfl
  | n + 1, h => by
    rw [cI, cI, cI_congr P Q a n (fun d h0 h1 => h d h0 (by omega)), h (a + n) (by omega) (by omega)]
theorem cI_lin (P Q R S : Int → Bool) (a : Int) : ∀ n : Nat, (∀ d, a ≤ d → d < a + n → one (P d) + one (Q d) = one (R d) + one (S d)) → cI P a n + cI Q a n = cI R a n + cI S a n
  | 0, _ => rfl
  | n + 1, h => by
    have ih := cI_lin P Q R S a n (fun d h0 h1 => h d h0 (by omega))
    have := h (a + n) (by omega) (by omega)
    rw [cI, cI, cI, cI]
    omega
theorem cI_app (P : Int → Bool) (a : Int) (m : Nat) : ∀ n : Nat, cI P a (m + n) = cI P a m + cI P (a + m) n
  | 0 => by simp [cI]
  | n + 1 => by
    rw [← Nat.add_assoc, cI, cI_app P a m n, cI, show a + ((m + n : Nat) : Int) = a + m + n by omega]
    omega
theorem cI_false (P : Int → Bool) (a : Int) : ∀ n : Nat, (∀ d, a ≤ d → d < a + n → P d = false) → cI P a n = 0
  | 0, _ => rfl
  | n + 1, h => by
    rw [cI, cI_false P a n (fun d h0 h1 => h d h0 (by omega)), h (a + n) (by omega) (by omega)]
    rfl
theorem cI_true (P : Int → Bool) (a : Int) : ∀ n : Nat, (∀ d, a ≤ d → d < a + n → P d = true) → cI P a n = n
  | 0, _ => rfl
  | n + 1, h => by
    rw [cI, cI_true P a n (fun d h0 h1 => h d h0 (by omega)), h (a + n) (by omega) (by omega)]
    simp [one]
theorem size_cI : ∀ (R : List Sp) (lo a : Int), SepL lo R → a ≤ lo + 1 → ∀ n : Nat, a + n = 1048577 → sizeS R = cI (memB R) a n
  | [], _, a, _, _, n, _ => (cI_false _ a n fun _ _ _ => rfl).symm
  | s :: r, lo, a, h, ha, n, hn => by
    obtain ⟨h1, h2, h3, h4⟩ := h
    have e : n = (s.1 - a).toNat + ((s.2 - s.1).toNat + (1048577 - s.2).toNat) := by omega
    have g1 : a + ((s.1 - a).toNat : Int) = s.1 := by omega
    have g2 : s.1 + ((s.2 - s.1).toNat : Int) = s.2 := by omega
    rw [e, cI_app, g1, cI_app, g2]
    rw [cI_false _ a _ (fun d h0 h1 => by rw [mem_tail d (Or.inl (by omega)), mem_low r s.2 d h4 (by omega)])]
    rw [cI_true _ s.1 _ (fun d h0 h1 => mem_head d h0 (by omega))]
    rw [cI_congr (memB (s :: r)) (memB r) s.2 _ (fun d h0 h1 => mem_tail d (Or.inr h0))]
    rw [sizeS, size_cI r s.2 s.2 h4 (by omega) (1048577 - s.2).toNat (by omega)]
    omega
theorem size_is {R : List Sp} {P : Int → Bool} (h : Is R P) : sizeS R = cI P 0 1048577 := by
  rw [size_cI R (-1) 0 h.1 (by omega) 1048577 (by omega)]
  exact cI_congr _ _ _ _ fun d h0 h1 => h.2 d h0 (by omega)
theorem size_range {R : List Sp} {P : Int → Bool} (h : Is R P) : 0 ≤ sizeS R ∧ sizeS R ≤ 1048578 := by
  have := sizeS_range R h.1 R.length
  rwa [List.take_length] at this
/-- A linear relation between the sizes of four sets. -/
theorem size_lin {R1 R2 R3 R4 : List Sp} {P Q U V : Int → Bool} (h1 : Is R1 P) (h2 : Is R2 Q) (h3 : Is R3 U) (h4 : Is R4 V)
    (h : ∀ d, 0 ≤ d → d ≤ 1048576 → one (P d) + one (Q d) = one (U d) + one (V d)) : sizeS R1 + sizeS R2 = sizeS R3 + sizeS R4 := by
  rw [size_is h1, size_is h2, size_is h3, size_is h4]
  exact cI_lin _ _ _ _ _ _ fun d h0 h1 => h d h0 (by omega)
theorem is_none : Is [] (fun _ => false) := ⟨trivial, fun _ _ _ => rfl⟩
theorem is_since (t : Int) (h0 : 0 ≤ t) (h1 : t ≤ 1048576) : Is [(t, 1048577)] (memB [(t, 1048577)]) := ⟨⟨by simp only; omega, by simp only; omega, by simp only; omega, trivial⟩, fun _ _ _ => rfl⟩

/-- The size of a canonical list. -/
theorem sizeK_c (P : Int → Bool) (N ca : Nat) (Aa : Option Addr) (w : World) (x : Int) (hP : Is (canon P) P) (hx : sizeS (canon P) = x) (hza : SpansAt w.heap.size w Aa N (canon P)) (hN : N ≤ 2000000) :
    Calls Tryd.prog 18 #[.slice Aa N ca] w fun e w' => e = .returned (.int .i64 x) ∧ Below w.heap.size w w' := by
  have e : canon (memB (canon P)) = canon P := (canon_is (is_self hP)).symm
  have := size_c (canon P) N ca Aa w hza hN
  rw [e, hx] at this
  exact this
/-- The size of any list. -/
theorem sizeL_c (La : List Sp) (N ca : Nat) (Aa : Option Addr) (w : World) (x : Int) (hx : sizeS (canon (memB La)) = x) (hza : SpansAt w.heap.size w Aa N La) (hN : N ≤ 2000000) :
    Calls Tryd.prog 18 #[.slice Aa N ca] w fun e w' => e = .returned (.int .i64 x) ∧ Below w.heap.size w w' := by
  subst hx
  exact size_c La N ca Aa w hza hN
end Go.Proofs.YtkiafejjcchofaaDoor
