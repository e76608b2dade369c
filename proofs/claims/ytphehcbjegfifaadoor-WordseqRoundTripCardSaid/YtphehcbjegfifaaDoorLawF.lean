/-
  WordseqSplits and WordseqRoundTrip: the laws return true for every input.
-/
import Derived.Test.YtphehcbjegfifaaDoorSpl
import Derived.Test.YtphehcbjegfifaaDoorLong
import Derived.Test.YtphehcbjegfifaaDoorAwk
namespace Go.Proofs.YtphehcbjegfifaaDoor
open Go.RowKit (wrap32 wrap64 intOf Hid Below)
open Occ

theorem weq_any (La Lb : List Str) (B N M ca cb : Nat) (Aa Ab : Option Addr) (w : World) (hza : Slc B w Aa N ca (sv La)) (hzb : Slc B w Ab M cb (sv Lb)) :
    Calls Tryd.prog 13 #[.slice Aa N ca, .slice Ab M cb] w fun e w' => e = .returned (.bool (decide (La = Lb))) ∧ ∃ q, w' = w.drewN q := by
  have HF := Lib.hid (equal_any La Lb B N M ca cb Aa Ab w hza.1 hzb.1 (by have := hza.2.2.2.1; omega) (by have := hzb.2.2.2.1; omega) hza.2.2.2.2)
  clear hza hzb
  go_enter Tryd.func13, Tryd.ntmps13
  go_wp2_with (go_at_call 22; ((with_reducible refine (HF.out).mono ?_); rintro e w1 ⟨rfl, hq⟩))
  go_ret
  exact ⟨rfl, hq⟩
theorem rows_one (w : World) (A : Option Addr) (n c : Nat) (L : List Str) (hl : Sq w A n c L) :
    RowsAt (w.alloc (.cells #[.slice A n c] 23)) w.heap.size [(A, n, c, L)] := by
  have hb := alloc_below w (.cells #[.slice A n c] 23)
  intro k hk
  obtain rfl : k = 0 := by simp at hk; omega
  exact ⟨by rw [World.cell?_alloc_at _ _ _ _ rfl]; rfl, (hl.below hb).1.1, hl.1.2.2.2.1⟩
def LongOne (n : Nat) (e : Ending) : Prop := ∃ b, e = .returned (.bool b) ∧ (b = false → n ≤ 300)
theorem long_one (w : World) (A : Option Addr) (n c : Nat) (L : List Str) (hl : Sq w A n c L) :
    Calls Tryd.prog 11 #[.slice (some ⟨w.heap.size, 0, none⟩) 1 1] (w.alloc (.cells #[.slice A n c] 23)) fun e w' => LongOne n e ∧ Below w.heap.size w w' :=
  (long_any [(A, n, c, L)] 1 w.heap.size _ rfl (by omega) (rows_one w A n c L hl)).mono fun e w' ⟨⟨b, he, h⟩, hw⟩ =>
    ⟨⟨b, he, fun hb => h hb 0 (by simp)⟩, by rw [← hw]; exact alloc_below w _⟩


set_option maxHeartbeats 2000000 in
theorem refsplit_any (s : Str) (w : World) (hs : s.size ≤ 100000) :
    Calls Tryd.prog 7 #[.string s] w fun e w' => SpRet s e w' ∧ Below w.heap.size w w' := by
  have HP := Lib.hid (pieces_any s w hs)
  have HNil : Hid (∀ W : World, Sq W none 0 0 []) := Lib.hid fun W => sq_nil W
  have HWd : Hid (∀ s W, Calls Tryd.prog 20 #[.string s] W fun e w' => e = .returned (.bool (wordB s)) ∧ W = w') := Lib.hid fun s W => refword_any s W
  go_enter Tryd.func7, Tryd.ntmps7
  go_wp2_with fail
  with_reducible refine (HP.out).mono ?_
  rintro e w1 ⟨⟨A, n, c, rfl, hsq⟩, hb1⟩
  have HQ := Lib.hid hsq
  have HLn := Lib.hid hsq.len
  have hn := hsq.1.2.2.2.1
  clear hsq
  go_wp2
  go_loop [5] (fun i => ∃ k : Nat, k ≤ n ∧ i = .int .i64 k ∧ ∀ j, j < k → wordB (st (pieces s) j) = true) (fun i => n - (intOf i).toNat)
  case atStart => exact ⟨0, Nat.zero_le _, rfl, fun j hj => absurd hj (by omega)⟩
  case round =>
    obtain ⟨k, hk, rfl, hg⟩ := hrel
    have HG := Lib.hid hg
    clear hg
    by_cases hlt : k < n
    · obtain ⟨b, off, rfl, hB, hcell⟩ := HQ.out.1.1.str (Below.refl _ _) hlt
      have HC := Lib.hid (HWd.out (st (pieces s) k) w1)
      cases hw : wordB (st (pieces s) k) with
      | false =>
        have HB := Lib.hid (code_bad (all_bad (by rw [HLn.out]; exact hlt) hw))
        rw [hw] at HC
        clear hw
        go_wp2_with (go_at_call 20; ((with_reducible refine (HC.out).mono ?_); rintro e w2 ⟨rfl, rfl⟩))
        go_ret2
        exact ⟨⟨none, 0, 0, by rw [HB.out.1]; rfl, by rw [HB.out.2]; exact HNil.out _⟩, hb1⟩
      | true =>
        have HY := Lib.hid hw
        rw [hw] at HC
        clear hw
        go_wp2_with (go_at_call 20; ((with_reducible refine (HC.out).mono ?_); rintro e w2 ⟨rfl, rfl⟩))
        go_round
        case rel => exact ⟨k + 1, by omega, by go_num, fun j hj => by
          by_cases h : j = k
          · subst h; exact HY.out
          · exact HG.out j (by omega)⟩
        case measure => simp [intOf]; omega
    · obtain rfl : k = n := by omega
      have hall := all_good (L := pieces s) (fun j hj => HG.out j (by rw [← HLn.out]; exact hj))
      by_cases h256 : 256 < k
      · have HC := Lib.hid (code_many hall (by rw [HLn.out]; exact h256))
        clear hall
        go_wp2
        go_ret2
        exact ⟨⟨none, 0, 0, by rw [HC.out.1]; rfl, by rw [HC.out.2]; exact HNil.out _⟩, hb1⟩
      · have HC := Lib.hid (code_good hall (by rw [HLn.out]; exact h256))
        clear hall
        go_wp2
        go_ret2
        exact ⟨⟨A, k, c, by rw [HC.out.1]; rfl, by rw [HC.out.2]; exact HQ.out⟩, hb1⟩

theorem code_three (s : Str) : codeB s = 0 ∨ codeB s = 2 ∨ codeB s = 6 := by
  unfold codeB
  by_cases h : (pieces s).all wordB = true
  · rw [if_pos h]
    by_cases h2 : 256 < (pieces s).length
    · rw [if_pos h2]; exact Or.inr (Or.inr rfl)
    · rw [if_neg h2]; exact Or.inl rfl
  · rw [if_neg h]; exact Or.inr (Or.inl rfl)

set_option maxHeartbeats 2000000 in
theorem lawSplits {a0 : ByteArray} {w : World} (hT : EnvW w) :
    Calls Tryd.prog 3 #[.string a0] w fun e w' => e = .returned (.bool true) ∧ Below w.heap.size w w' := by
  have HAw : Hid (∀ W, Calls Tryd.prog 5 #[] W fun e w' => e = .returned (.bool true) ∧ Below W.heap.size W w') := Lib.hid fun W => awake_any W
  by_cases c0 : a0.size > 9000
  · clear hT
    go_enter Tryd.func3, Tryd.ntmps3
    go_wp2_with (go_at_call 5; ((with_reducible refine (HAw.out _).mono ?_); rintro e w1 ⟨rfl, hb1⟩))
    go_ret
    exact ⟨rfl, hb1⟩
  have HS := Lib.hid (wsplit_any a0 w hT (by omega))
  have HR : Hid (∀ W, Calls Tryd.prog 7 #[.string a0] W fun e w' => SpRet a0 e w' ∧ Below W.heap.size W w') := Lib.hid fun W => refsplit_any a0 W (by omega)
  have h3 := code_three a0
  have HMay := Lib.hid (code_may (s := a0))
  have hE0 := str_eq a0 a0
  rw [decide_eq_true rfl] at hE0
  clear hT
  go_enter Tryd.func3, Tryd.ntmps3
  go_wp2_with fail
  with_reducible refine (HS.out).mono ?_
  rintro e w1 ⟨⟨A, n, c, rfl, hs1⟩, hb1⟩
  have HS1 := Lib.hid hs1
  clear hs1
  go_wp2_with fail
  with_reducible refine (HR.out w1).mono ?_
  rintro e w2 ⟨⟨B, m, d, rfl, hs2⟩, hb2⟩
  have hb12 := hb1.trans (hb2.mono hb1.size)
  have HA2 : Hid (Sq w2 A n c (resB a0)) := Lib.hid (HS1.out.below hb2)
  have HSame := Lib.hid (same_yes (resB a0) n m c d A B w2 HA2.out hs2)
  clear hs2
  obtain ⟨k, hk⟩ : ∃ k, k = codeB a0 := ⟨_, rfl⟩
  rw [← hk] at h3 ⊢
  have HK := Lib.hid hk
  clear hk
  rcases h3 with rfl | rfl | rfl
  · have hmy := HMay.out HK.out.symm
    have HJ : Hid (∀ W, Below w2.heap.size w2 W → Calls Tryd.prog 9 #[.slice A n c] W fun e w' => e = .returned (.string a0) ∧ Below w2.heap.size w2 w') := Lib.hid fun W h => by
      have h1 := wjoin_any (resB a0) n c A W (HA2.out.below h)
      rw [hmy.2] at h1
      exact h1.mono fun _ _ ⟨he, h2⟩ => ⟨he, h.trans (h2.mono h.size)⟩
    have HV : Hid (∀ W, Below w2.heap.size w2 W → Calls Tryd.prog 10 #[.slice A n c] W fun e w' => e = .returned (.bool true) ∧ W = w') := Lib.hid fun W h => by
      have h1 := wvalid_any (resB a0) n c A W (HA2.out.below h)
      rwa [hmy.1] at h1
    clear hmy
    go_wp2_with (first
      | (go_at_call 8; ((with_reducible refine (HSame.out).mono ?_); rintro e w3 ⟨rfl, hb3⟩))
      | (go_at_call 9; ((with_reducible refine (HJ.out _ (by assumption)).mono ?_); rintro e w4 ⟨rfl, hb4⟩))
      | (go_at_call 10; ((with_reducible refine (HV.out _ (by assumption)).mono ?_); rintro e w5 ⟨rfl, rfl⟩))
      | (go_at_call 5; ((with_reducible refine (HAw.out _).mono ?_); rintro e w6 ⟨rfl, hb6⟩)))
    go_ret
    exact ⟨by first | rfl | (apply ret_bool; simp), (hb12.trans (hb4.mono hb12.size)).trans (hb6.mono (Nat.le_trans hb12.size hb4.size))⟩
  · go_wp2_with (first
      | (go_at_call 8; ((with_reducible refine (HSame.out).mono ?_); rintro e w3 ⟨rfl, hb3⟩))
      | (go_at_call 5; ((with_reducible refine (HAw.out _).mono ?_); rintro e w6 ⟨rfl, hb6⟩)))
    go_ret
    exact ⟨by first | rfl | (apply ret_bool; simp), (hb12.trans (hb3.mono hb12.size)).trans (hb6.mono (Nat.le_trans hb12.size hb3.size))⟩
  · go_wp2_with (first
      | (go_at_call 8; ((with_reducible refine (HSame.out).mono ?_); rintro e w3 ⟨rfl, hb3⟩))
      | (go_at_call 5; ((with_reducible refine (HAw.out _).mono ?_); rintro e w6 ⟨rfl, hb6⟩)))
    go_ret
    exact ⟨by first | rfl | (apply ret_bool; simp), (hb12.trans (hb3.mono hb12.size)).trans (hb6.mono (Nat.le_trans hb12.size hb3.size))⟩
end Go.Proofs.YtphehcbjegfifaaDoor
