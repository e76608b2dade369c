/-
  Lists of sittings: plain facts, the closure that checks them, the library's loop over it, and the reference's loops.
-/
import Derived.Deep.QuietTactic
import Derived.BigQuiet
import Derived.Deep.Draws
import Derived.Test.YtagapapnpefckaaDoorText
namespace Go.Proofs.YtagapapnpefckaaDoor
open Go.RowKit (wrap32 wrap64 intOf Hid Below)
open Cal

/-- The k-th element of a list. -/
def el (zs : List Int) (k : Nat) : Int := zs.getD k 0
/-- A slice value that reads as a list of integers below block B; where it has no element nothing is asked of its address. -/
def IntsAt (B : Nat) (w : World) (A : Option Addr) (n : Nat) (zs : List Int) : Prop :=
  zs.length = n ∧ (0 < n → ∃ b off, A = some ⟨b, off, none⟩ ∧ b < B ∧ ∀ k, k < n → w.cell? ⟨b, off + k, none⟩ = some (.int .i64 (el zs k)))
theorem IntsAt.below {B : Nat} {w w' : World} {A : Option Addr} {n : Nat} {zs : List Int} (h : IntsAt B w A n zs) (hb : Below B w w') : IntsAt B w' A n zs :=
  ⟨h.1, fun hn => by
    obtain ⟨b, off, e, hlt, hc⟩ := h.2 hn
    exact ⟨b, off, e, hlt, fun k hk => (hb.cell (p := ⟨b, off + k, none⟩) hlt).trans (hc k hk)⟩⟩
theorem IntsAt.drewN {B : Nat} {w : World} {A : Option Addr} {n : Nat} {zs : List Int} (h : IntsAt B w A n zs) (q : Nat) : IntsAt B (w.drewN q) A n zs := h

/-- The k-th element stands where it must. -/
def goodAt (zs : List Int) (k : Nat) : Prop := (0 ≤ el zs k ∧ el zs k ≤ 1048576) ∧ (0 < k → el zs (k - 1) < el zs k)
instance (zs : List Int) (k : Nat) : Decidable (goodAt zs k) := by unfold goodAt; infer_instance
def goodB (zs : List Int) : Bool := decide (∀ k, k < zs.length → goodAt zs k)
/-- The element ahead of the k-th, -1 ahead of the first. -/
def lastAt (zs : List Int) (k : Nat) : Int := if k = 0 then -1 else el zs (k - 1)

/-- A captured variable in a block of its own, all that lay below it as it was. -/
def Box (B : Nat) (w w' : World) (v : Int) : Prop := Below B w w' ∧ w'.cell? ⟨B, 0, none⟩ = some (.int .i64 v) ∧ w'.frozen? ⟨B, 0, none⟩ = false ∧ B < w'.heap.size

set_option maxHeartbeats 400000 in
/-- The closure: is this day misplaced? It keeps the day. -/
theorem closure_any (x v : Int) (B : Nat) (w : World) (hc : w.cell? ⟨B, 0, none⟩ = some (.int .i64 v)) (hf : w.frozen? ⟨B, 0, none⟩ = false) :
    Calls Tryd.prog 39 #[.int .i64 x, .pointer (some ⟨B, 0, none⟩)] w fun e w' => e = .returned (.bool (!dayB x || decide (x ≤ v))) ∧ w' = w.setCell ⟨B, 0, none⟩ (.int .i64 x) := by
  go_enter Tryd.func39, Tryd.ntmps39
  go_wp2_with (go_at_call 27; refine (isDay_any _ _).mono ?_; rintro e w' ⟨rfl, rfl⟩)
  all_goals (go_ret; exact ⟨ret_bool (by simp_all), rfl⟩)

theorem good_step (zs : List Int) (k : Nat) : (!dayB (el zs k) || decide (el zs k ≤ lastAt zs k)) = !decide (goodAt zs k) := by
  unfold dayB lastAt
  rw [Bool.eq_iff_iff]
  simp only [Bool.or_eq_true, Bool.not_eq_true', decide_eq_false_iff_not, decide_eq_true_eq]
  unfold goodAt
  by_cases hk : k = 0
  · rw [if_pos hk]
    constructor
    · rintro (h | h) ⟨⟨h1, h2⟩, _⟩
      · exact h ⟨h1, h2⟩
      · omega
    · intro h
      by_cases h1 : 0 ≤ el zs k ∧ el zs k ≤ 1048576
      · exact absurd ⟨h1, fun h0 => absurd h0 (by omega)⟩ h
      · exact Or.inl h1
  · rw [if_neg hk]
    constructor
    · rintro (h | h) ⟨⟨h1, h2⟩, h3⟩
      · exact h ⟨h1, h2⟩
      · have := h3 (by omega); omega
    · intro h
      by_cases h1 : 0 ≤ el zs k ∧ el zs k ≤ 1048576
      · right
        rcases Int.lt_or_le (el zs (k - 1)) (el zs k) with h2 | h2
        · exact absurd ⟨h1, fun _ => h2⟩ h
        · exact h2
      · exact Or.inl h1
theorem box_set {B : Nat} {w w' : World} {v : Int} (h : Box B w w' v) (x : Int) : Box B w (w'.setCell ⟨B, 0, none⟩ (.int .i64 x)) x := by
  obtain ⟨h1, h2, h3, h4⟩ := h
  refine ⟨h1.setCell (p := ⟨B, 0, none⟩) (Nat.le_refl _) _, ?_, ?_, ?_⟩
  · exact World.cell?_setCell_same _ _ _ h2
  · simpa using h3
  · simpa using h4
theorem closure_at (zs : List Int) (k : Nat) (B : Nat) (w W : World) (h : Box B w W (lastAt zs k)) :
    Calls Tryd.prog 39 #[.int .i64 (el zs k), .pointer (some ⟨B, 0, none⟩)] W fun e w' => e = .returned (.bool (!decide (goodAt zs k))) ∧ Box B w w' (lastAt zs (k + 1)) :=
  (closure_any (el zs k) (lastAt zs k) B W h.2.1 h.2.2.1).mono fun e w' ⟨he, hw⟩ => ⟨by rw [he, good_step], by rw [hw]; exact box_set h _⟩

set_option maxHeartbeats 400000 in
/-- The library's IndexFunc over the closure. -/
theorem index_any (zs : List Int) (B n c : Nat) (A : Option Addr) (w : World) (hz : IntsAt B w A n zs) (hn : n ≤ 1000) (hbox : Box B w w (-1)) :
    Calls Tryd.prog 41 #[.slice A n c, .func (.func 39) #[] #[.pointer (some ⟨B, 0, none⟩)]] w fun e w' => (∃ r : Int, e = .returned (.int .i64 r) ∧ decide (0 ≤ r) = !goodB zs) ∧ Below B w w' := by
  go_enter Tryd.func41, Tryd.ntmps41
  go_wp2
  go_loopw [8] (fun i wr => ∃ k : Nat, k ≤ n ∧ i = .int .i64 k ∧ Box B w wr (lastAt zs k) ∧ ∀ j, j < k → goodAt zs j) (fun i _ => n - (intOf i).toNat)
  case atStart => exact ⟨0, Nat.zero_le _, rfl, hbox, fun j hj => absurd hj (by omega)⟩
  case round =>
    obtain ⟨k, hk, rfl, hb, hg⟩ := hrel
    by_cases hlt : k < n
    · have hlen := hz.1
      obtain ⟨b, off, rfl, hB, hc⟩ := hz.2 (by omega)
      have hcell : wr.cell? ⟨b, off + k, none⟩ = some (.int .i64 (el zs k)) := (hb.1.cell (p := ⟨b, off + k, none⟩) hB).trans (hc k hlt)
      have HC : Hid (∀ W, Box B w W (lastAt zs k) → Calls Tryd.prog 39 #[.int .i64 (el zs k), .pointer (some ⟨B, 0, none⟩)] W fun e w' => e = .returned (.bool (!decide (goodAt zs k))) ∧ Box B w w' (lastAt zs (k + 1))) := Lib.hid fun W h => closure_at zs k B w W h
      have HLEN := Lib.hid hlen
      clear hc hz hlen
      by_cases hgk : goodAt zs k
      · have HG := Lib.hid hgk
        simp only [hgk, decide_true, Bool.not_true] at HC
        clear hgk
        go_wp2_with (go_at_call 39; refine (HC.out _ hb).mono ?_; rintro e w' ⟨rfl, hb2⟩)
        go_roundw
        case rel => exact ⟨k + 1, by omega, by go_num, hb2, fun j hj => by
          by_cases h : j = k
          · subst h; exact HG.out
          · exact hg j (by omega)⟩
        case measure => simp [intOf]; omega
      · have HG := Lib.hid hgk
        simp only [hgk, decide_false, Bool.not_false] at HC
        clear hgk
        go_wp2_with (go_at_call 39; refine (HC.out _ hb).mono ?_; rintro e w' ⟨rfl, hb2⟩)
        go_ret
        refine ⟨⟨k, rfl, ?_⟩, hb2.1⟩
        have hf : goodB zs = false := by
          unfold goodB
          rw [decide_eq_false_iff_not]
          exact fun h => HG.out (h k (by have := HLEN.out; omega))
        rw [hf]
        simp
    · obtain rfl : k = n := by omega
      go_wp2
      go_ret
      refine ⟨⟨-1, rfl, ?_⟩, hb.1⟩
      have hf : goodB zs = true := by
        unfold goodB
        rw [decide_eq_true_iff]
        exact fun j hj => hg j (by have := hz.1; omega)
      rw [hf]
      rfl
end Go.Proofs.YtagapapnpefckaaDoor
