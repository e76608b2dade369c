/-
  The chapter's examples, which every law checks.
-/
import Derived.Test.YtbjdfghakhplnaaDoorWi
namespace Go.Proofs.YtbjdfghakhplnaaDoor
open Go.RowKit (wrap32 wrap64 intOf Hid Below)
open Lab

theorem d12 : Lib.decDigits 12 = [49, 50] := by rw [Lib.decDigits_two (by decide) (by decide)]; rfl
theorem d5 : Lib.decDigits 5 = [53] := by rw [dec_small (by decide)]; rfl
theorem ok12 (c : Bs) (h : c.length ≤ 3 ∧ ∀ b ∈ c, isCap b = true) : Ok 12 c := ⟨by omega, by omega, h.1, h.2⟩
theorem ok5 (c : Bs) (h : c.length ≤ 3 ∧ ∀ b ∈ c, isCap b = true) : Ok 5 c := ⟨by omega, by omega, h.1, h.2⟩
theorem t12 (c : Bs) : txt 12 c = 49 :: 50 :: c := by unfold txt; rw [d12]; rfl
theorem t5 (c : Bs) : txt 5 c = 53 :: c := by unfold txt; rw [d5]; rfl
theorem ex_next : nxV [49, 50, 65, 90] = .tuple #[.string ⟨#[49, 50, 66]⟩, .bool true] := by
  have ho : Ok 12 [65, 90] := ok12 _ (by decide)
  have h := nx_yes (may_txt ho).1
  rw [(may_txt ho).2, t12] at h
  rw [h]
  have e : nextN 12 [65, 90] = some (12, [66]) := by decide
  simp only [e]
  rw [t12]
  rfl
theorem bestl_of {n m : Nat} {c d : Bs} (h1 : Ok n c) (h2 : Ok m d) {R : Option (Nat × Bs)} (h : Best n c m d R) : BestL (txt n c) (txt m d) R := by
  unfold BestL
  rw [if_pos ⟨(may_txt h1).1, (may_txt h2).1⟩, (may_txt h1).2, (may_txt h2).2]
  exact h
theorem ex_bet1 : BestL [53, 65] [53, 66] (some (5, [65, 65])) := by
  have h1 : Ok 5 [65] := ok5 _ (by decide)
  have h2 : Ok 5 [66] := ok5 _ (by decide)
  have h := bestl_of h1 h2 (prog_yes h1 (fun i hi q f hn => by
    rcases (by simp at hi; omega : i = 0 ∨ i = 1) with rfl | rfl
    · have e : nextN 5 (([65] : Bs).take 0) = some (6, []) := by decide
      rw [e] at hn
      obtain ⟨rfl, rfl⟩ := Prod.mk.inj (Option.some.inj hn)
      rintro (h | ⟨h, _⟩) <;> omega
    · have e : nextN 5 (([65] : Bs).take 1) = some (5, [66]) := by decide
      rw [e] at hn
      obtain ⟨rfl, rfl⟩ := Prod.mk.inj (Option.some.inj hn)
      exact Lt.irr) (by decide) (Or.inr ⟨rfl, by decide⟩))
  rwa [t5, t5] at h
theorem ex_bet2 : BestL [53] [53, 65] none := by
  have h1 : Ok 5 [] := ok5 _ (by decide)
  have h2 : Ok 5 [65] := ok5 _ (by decide)
  have h := bestl_of h1 h2 (prog_no h1 (fun i hi q f hn => by
    obtain rfl : i = 0 := by simp at hi; omega
    have e : nextN 5 (([] : Bs).take 0) = some (6, []) := by decide
    rw [e] at hn
    obtain ⟨rfl, rfl⟩ := Prod.mk.inj (Option.some.inj hn)
    rintro (h | ⟨h, _⟩) <;> omega) (Or.inr Lt.irr))
  rwa [t5, t5] at h
theorem ex_comp : compL [49, 50, 65, 66] [49, 50, 66] = -1 := by
  have h1 : Ok 12 [65, 66] := ok12 _ (by decide)
  have h2 : Ok 12 [66] := ok12 _ (by decide)
  have h := comp_txt h1 h2
  rw [t12, t12] at h
  rw [h]
  decide

set_option maxHeartbeats 2000000 in
set_option maxRecDepth 100000 in
theorem awake_any (w : World) (hT : Tab w) :
    Calls Tryd.prog 10 #[] w fun e w' => e = .returned (.bool true) ∧ Below w.heap.size w w' := by
  have HN : Hid (Calls Tryd.prog 17 #[.string ⟨#[49, 50, 65, 90]⟩] w fun e w' => e = .returned (.tuple #[.string ⟨#[49, 50, 66]⟩, .bool true]) ∧ Below w.heap.size w w') := Lib.hid (by
    have h := next_any ⟨#[49, 50, 65, 90]⟩ w hT (by decide)
    rw [← ex_next]
    exact h)
  have HB1 : Hid (∀ W, Below w.heap.size w W → Calls Tryd.prog 19 #[.string ⟨#[53, 65]⟩, .string ⟨#[53, 66]⟩] W fun e w' => e = .returned (.tuple #[.string ⟨#[53, 65, 65]⟩, .bool true]) ∧ Below w.heap.size w w') := Lib.hid fun W h =>
    (between_any ⟨#[53, 65]⟩ ⟨#[53, 66]⟩ W (hT.below h) (by decide) (by decide)).mono fun _ _ ⟨⟨R, hR, he⟩, h2⟩ => ⟨by
      obtain rfl := hR.unique ex_bet1
      rw [he]
      show Ending.returned (.tuple #[.string (mk (txt 5 [65, 65])), .bool true]) = _
      rw [t5]
      rfl, h.trans (h2.mono h.size)⟩
  have HB2 : Hid (∀ W, Below w.heap.size w W → Calls Tryd.prog 19 #[.string ⟨#[53]⟩, .string ⟨#[53, 65]⟩] W fun e w' => e = .returned (.tuple #[.string ⟨#[]⟩, .bool false]) ∧ Below w.heap.size w w') := Lib.hid fun W h =>
    (between_any ⟨#[53]⟩ ⟨#[53, 65]⟩ W (hT.below h) (by decide) (by decide)).mono fun _ _ ⟨⟨R, hR, he⟩, h2⟩ => ⟨by
      obtain rfl := hR.unique ex_bet2
      rw [he]
      rfl, h.trans (h2.mono h.size)⟩
  have HC : Hid (∀ W, Below w.heap.size w W → Calls Tryd.prog 15 #[.string ⟨#[49, 50, 65, 66]⟩, .string ⟨#[49, 50, 66]⟩] W fun e w' => e = .returned (.int .i64 (-1)) ∧ Below w.heap.size w w') := Lib.hid fun W h => by
    have h1 := compare_any ⟨#[49, 50, 65, 66]⟩ ⟨#[49, 50, 66]⟩ W (hT.below h) (by decide) (by decide)
    rw [← ex_comp]
    exact h1.mono fun _ _ ⟨he, h2⟩ => ⟨he, h.trans (h2.mono h.size)⟩
  clear hT
  go_enter Tryd.func10, Tryd.ntmps10
  go_wp2_with fail
  with_reducible refine (HN.out).mono ?_
  rintro e w1 ⟨rfl, hb1⟩
  go_wp2_with fail
  with_reducible refine (HB1.out _ hb1).mono ?_
  rintro e w2 ⟨rfl, hb2⟩
  go_wp2_with fail
  with_reducible refine (HB2.out _ hb2).mono ?_
  rintro e w3 ⟨rfl, hb3⟩
  go_wp2_with (go_at_call 15; ((with_reducible refine (HC.out _ hb3).mono ?_); rintro e w4 ⟨rfl, hb4⟩))
  go_ret
  exact ⟨rfl, hb4⟩
theorem awake_c (w : World) (hT : Tab w) : ∀ W, Below w.heap.size w W → Calls Tryd.prog 10 #[] W fun e w' => e = .returned (.bool true) ∧ Below w.heap.size w w' := fun W h =>
  (awake_any W (hT.below h)).mono fun _ _ ⟨he, h2⟩ => ⟨he, h.trans (h2.mono h.size)⟩
end Go.Proofs.YtbjdfghakhplnaaDoor
