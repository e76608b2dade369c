/-
  The contract of advance.
-/
import Derived.Test.YtmgjpmjmondplaaNorm
namespace Go.Proofs.Ytmgjpmjmondplaa
open Go.RowKit (wrap32 wrap64 intOf Hid Below)
open Spans
theorem SpansAt.drewN {B : Nat} {w : World} {A : Option Addr} {n : Nat} {L : List Sp} (h : SpansAt B w A n L) (q : Nat) : SpansAt B (w.drewN q) A n L := h
theorem SpansAt.tail {B : Nat} {w : World} {b off n : Nat} {s : Sp} {L : List Sp} (h : SpansAt B w (some ⟨b, off, none⟩) (n + 1) (s :: L)) : SpansAt B w (some ⟨b, off + 2, none⟩) n L := by
 refine ⟨by have := h.1; simpa using this, fun hn => ?_⟩
 obtain ⟨b', off', e, hlt, hc⟩ := h.2 (by omega)
 injection e with e
 injection e with e1 e2
 subst e1 e2
 refine ⟨b, off + 2, rfl, hlt, fun k hk => ?_⟩
 have := hc (k + 1) (by omega)
 rw [show off + (k + 1) * 2 = off + 2 + k * 2 by omega] at this
 exact this
def AdvIs (L : List Sp) (d : Int) (R : List Sp) (b : Bool) (e : Int) : Prop :=
 (∃ lo, SepL lo R) ∧ (∀ x, d ≤ x → memB R x = memB L x) ∧ d < e ∧ e ≤ 1048577 ∧ ∀ x, d ≤ x → x < e → memB L x = b
def AdvRet (L : List Sp) (B n : Nat) (d : Int) (w : World) (ee : Ending) : Prop := ∃ (A' : Option Addr) (n' c' : Nat) (R : List Sp) (b : Bool) (e : Int), ee = .returned (.tuple #[.slice A' n' c', .bool b, .int .i64 e]) ∧ AdvIs L d R b e ∧ SpansAt B w A' n' R ∧ n' ≤ c' ∧ n' ≤ n
set_option maxHeartbeats 1000000 in
set_option maxRecDepth 100000 in
theorem adv_any (L : List Sp) (B n c : Nat) (A : Option Addr) (d lo : Int) (w : World) (hz : SpansAt B w A n L) (hs : SepL lo L) (hn : n ≤ 10000000) (hc : n ≤ c) (hd : d < 1048577) :
   Calls Try.prog 47 #[.slice A n c, .int .i64 d] w fun ee w' => AdvRet L B n d w ee ∧ ∃ q, w' = w.drewN q := by
 go_enter Try.func47, Try.ntmps47
 go_wp2
 go_loop [0] (fun v => ∃ (m cc : Nat) (Av : Option Addr) (R : List Sp) (lo' : Int), v = .slice Av m cc ∧ m ≤ n ∧ m ≤ cc ∧ SpansAt B w Av m R ∧ SepL lo' R ∧ ∀ x, d ≤ x → memB R x = memB L x) (fun v => match v with | .slice _ m _ => m | _ => 0)
 case atStart => exact ⟨n, c, A, L, lo, rfl, Nat.le_refl _, hc, hz, hs, fun _ _ => rfl⟩
 case round =>
   obtain ⟨m, cc, Av, R, lo', rfl, hm, hcc, hz', hs', hmem⟩ := hrel
   have HM := Lib.hid hmem
   have HS := Lib.hid hs'
   clear hmem hs'
   rcases Nat.eq_zero_or_pos m with h0 | h0
   · subst h0
     obtain rfl : R = [] := List.eq_nil_of_length_eq_zero hz'.1
     go_wp2
     go_ret3
     exact ⟨⟨none, 0, 0, [], false, 1048577, rfl, ⟨⟨lo', trivial⟩, HM.out, hd, by omega, fun x hx _ => (HM.out x hx).symm⟩, ⟨rfl, fun h => absurd h (by omega)⟩, Nat.le_refl _, Nat.zero_le _⟩, 0, rfl⟩
   · obtain ⟨k, rfl⟩ : ∃ k, m = k + 1 := ⟨m - 1, by omega⟩
     obtain ⟨s, R', rfl⟩ : ∃ s R', R = s :: R' := by
       cases R with
       | nil => have := hz'.1; simp at this
       | cons s R' => exact ⟨s, R', rfl⟩
     obtain ⟨b, off, rfl, hB, h1, h2⟩ := hz'.cells (Below.refl _ _) h0
     have c1 : w.cell? ⟨b, off, none⟩ = some (.int .i64 s.1) := by rw [Nat.zero_mul, Nat.add_zero] at h1; exact h1
     have c2 : w.cell? ⟨b, off + 1, none⟩ = some (.int .i64 s.2) := by rw [Nat.zero_mul, Nat.add_zero] at h2; exact h2
     have HT := Lib.hid hz'.tail
     have HZ := Lib.hid hz'
     obtain ⟨s1, s2, s3, s4⟩ := HS.out
     have HS4 := Lib.hid s4
     clear h1 h2 hz' hz hs s4
     by_cases hle : s.2 ≤ d
     · have HN : Hid (∀ x, d ≤ x → memB R' x = memB L x) := Lib.hid fun x hx => by rw [← HM.out x hx, mem_tail x (Or.inr (by omega))]
       by_cases hc1 : cc = 1
       · subst hc1
         obtain rfl : k = 0 := by omega
         go_wp2
         go_round
         case rel => exact ⟨0, 0, _, R', s.2, rfl, by omega, by omega, ⟨HT.out.1, fun h => absurd h (by omega)⟩, HS4.out, HN.out⟩
         case measure => simp
       · go_wp2
         go_round
         case rel => exact ⟨k, cc - 1, _, R', s.2, rfl, by omega, by omega, HT.out, HS4.out, HN.out⟩
         case measure => simp
     · by_cases hin : s.1 ≤ d
       · go_wp2
         go_quiet (fail)
         go_wp2
         go_ret3
         exact ⟨⟨_, _, _, s :: R', true, s.2, rfl, ⟨⟨lo', HS.out⟩, HM.out, by omega, by omega, fun x hx hx2 => by rw [← HM.out x hx, mem_head x (by omega) hx2]⟩, HZ.out, hcc, hm⟩, _, rfl⟩
       · go_wp2
         go_quiet (fail)
         go_wp2
         go_ret3
         exact ⟨⟨_, _, _, s :: R', false, s.1, rfl, ⟨⟨lo', HS.out⟩, HM.out, by omega, by omega, fun x hx hx2 => by rw [← HM.out x hx, mem_tail x (Or.inl hx2), mem_low R' s.2 x HS4.out (by omega)]⟩, HZ.out, hcc, hm⟩, _, rfl⟩
end Go.Proofs.Ytmgjpmjmondplaa
