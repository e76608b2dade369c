/-
  The contracts of the reference's in, chosen and Replace.
-/
import Derived.Test.YtphehcbjegfifaaIns
namespace Go.Proofs.Ytphehcbjegfifaa
open Go.RowKit (wrap32 wrap64 intOf Hid Below)
open Occ

/-- Numbers in memory. -/
def Nq (w : World) (A : Option Addr) (n : Nat) (K : List Nat) : Prop := ValsAt w.heap.size w A n (iv K) ∧ n ≤ 8796093022207
theorem Nq.below {w w' : World} {A : Option Addr} {n : Nat} {K : List Nat} (h : Nq w A n K) (hb : Below w.heap.size w w') : Nq w' A n K := ⟨(h.1.below hb).mono hb.size, h.2⟩
theorem Nq.len {w : World} {A : Option Addr} {n : Nat} {K : List Nat} (h : Nq w A n K) : K.length = n := by
  have := h.1.1
  rwa [iv_len] at this

set_option maxHeartbeats 1000000 in
theorem in_any (K : List Nat) (n c x : Nat) (A : Option Addr) (w : World) (hk : Nq w A n K) :
    Calls Try.prog 32 #[.slice A n c, .int .i64 (x : Int)] w fun e w' => e = .returned (.bool (decide (x ∈ K))) ∧ w = w' := by
  have HK := Lib.hid hk
  have hn := hk.2
  have HL := Lib.hid hk.len
  clear hk
  go_enter Try.func32, Try.ntmps32
  go_wp2
  go_loop [5] (fun i => ∃ k : Nat, k ≤ n ∧ i = .int .i64 k ∧ ∀ j, j < k → nt K j ≠ x) (fun i => n - (intOf i).toNat)
  case atStart => exact ⟨0, Nat.zero_le _, rfl, fun j hj => absurd hj (by omega)⟩
  case round =>
    obtain ⟨k, hk, rfl, hg⟩ := hrel
    have HG := Lib.hid hg
    clear hg
    by_cases hlt : k < n
    · obtain ⟨b, off, rfl, hB, hcell⟩ := HK.out.1.num (Below.refl _ _) hlt
      by_cases he : nt K k = x
      · have e1 : ((nt K k : Int) == (x : Int)) = true := by rw [beq_iff_eq]; omega
        have HE := Lib.hid he
        clear he
        go_wp2
        go_ret
        exact ⟨ret_bool (by
          symm
          rw [decide_eq_true_eq, ← HE.out, nt_eq (by have := HL.out; omega)]
          exact List.getElem_mem _), rfl⟩
      · have e1 : ((nt K k : Int) == (x : Int)) = false := by rw [beq_eq_false_iff_ne]; omega
        have HE := Lib.hid he
        clear he
        go_wp2
        go_round
        case rel => exact ⟨k + 1, by omega, by go_num, fun j hj => by
          by_cases h : j = k
          · subst h; exact HE.out
          · exact HG.out j (by omega)⟩
        case measure => simp [intOf]; omega
    · obtain rfl : k = n := by omega
      go_wp2
      go_ret
      exact ⟨ret_bool (by
        symm
        rw [decide_eq_false_iff_not]
        intro h
        obtain ⟨j, hj, he⟩ := List.getElem_of_mem h
        exact HG.out j (by have := HL.out; omega) (by rw [nt_eq hj]; exact he)), rfl⟩

/-- Numbers are handed back. -/
def RetNums (K : List Nat) (e : Ending) (w' : World) : Prop := ∃ A n c, e = .returned (.slice A n c) ∧ Nq w' A n K
set_option maxHeartbeats 1000000 in
theorem chosen_any (K : List Nat) (n c : Nat) (A : Option Addr) (nth : Int) (w : World) (hk : Nq w A n K) :
    Calls Try.prog 31 #[.slice A n c, .int .i64 nth] w fun e w' => RetNums (chosen K nth) e w' ∧ Below w.heap.size w w' := by
  have hn := hk.2
  have HL := Lib.hid hk.len
  by_cases h0 : nth = 0
  · subst h0
    rw [chosen_zero]
    have HK := Lib.hid hk
    clear hk
    go_enter Try.func31, Try.ntmps31
    go_wp2
    go_ret
    exact ⟨⟨A, n, c, rfl, HK.out⟩, Below.refl _ _⟩
  · have e0 : (nth == 0) = false := by rw [beq_eq_false_iff_ne]; exact h0
    by_cases h1 : nth < 1
    · have HC : Hid (chosen K nth = []) := Lib.hid (by unfold chosen; rw [if_neg h0, if_pos h1])
      rw [HC.out]
      clear hk h0
      go_enter Try.func31, Try.ntmps31
      go_wp2
      go_ret
      exact ⟨⟨none, 0, 0, rfl, ⟨ValsAt.nil _ _ _, by omega⟩⟩, Below.refl _ _⟩
    · by_cases h2 : nth > (n : Int)
      · have HC : Hid (chosen K nth = []) := Lib.hid (by
          unfold chosen
          rw [if_neg h0, if_neg h1, List.drop_of_length_le (by have := HL.out; omega)]
          rfl)
        rw [HC.out]
        clear hk h0
        go_enter Try.func31, Try.ntmps31
        go_wp2
        go_ret
        exact ⟨⟨none, 0, 0, rfl, ⟨ValsAt.nil _ _ _, by omega⟩⟩, Below.refl _ _⟩
      · obtain ⟨j, rfl⟩ : ∃ j : Nat, nth = (j : Int) + 1 := ⟨(nth - 1).toNat, by omega⟩
        have hj : j < n := by omega
        have HC : Hid (chosen K ((j : Int) + 1) = [nt K j]) := Lib.hid (by
          unfold chosen
          rw [if_neg h0, if_neg h1, show ((j : Int) + 1).toNat - 1 = j by omega, List.drop_eq_getElem_cons (by have := HL.out; omega), nt_eq (by have := HL.out; omega)]
          rfl)
        rw [HC.out]
        obtain ⟨b, off, rfl, hB, hcell⟩ := hk.1.num (Below.refl _ _) hj
        have HV : Hid (Nq (w.alloc (.cells #[.int .i64 (nt K j : Int)] 3)) (some ⟨w.heap.size, 0, none⟩) 1 [nt K j]) := Lib.hid ⟨⟨rfl, fun _ => ⟨w.heap.size, 0, rfl, by simp, fun k u hu => by
          rw [Nat.zero_add, World.cell?_alloc_at _ _ _ _ rfl]
          simpa [iv] using hu⟩⟩, by omega⟩
        have HB := Lib.hid (alloc_below w (.cells #[.int .i64 (nt K j : Int)] 3))
        clear hk h0
        go_enter Try.func31, Try.ntmps31
        go_wp2
        go_ret
        exact ⟨⟨_, _, _, rfl, HV.out⟩, HB.out⟩
end Go.Proofs.Ytphehcbjegfifaa
