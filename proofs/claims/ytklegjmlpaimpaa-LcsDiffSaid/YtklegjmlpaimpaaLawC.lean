/-
  The walk of the law LcsIncreasing.
-/
import Derived.Test.YtklegjmlpaimpaaLawA
namespace Go.Proofs.Ytklegjmlpaimpaa
open Go.RowKit (wrap32 wrap64 intOf Hid Below)
open Lcs Rise

/-- A slice of integers that came in. -/
def Zq (w : World) (A : Option Addr) (n : Nat) (L : List Int) : Prop := ValsAt w.heap.size w A n (zi L) ∧ n ≤ 17592186044415
theorem Zq.below {w w' : World} {A : Option Addr} {n : Nat} {L : List Int} (h : Zq w A n L) (hb : Below w.heap.size w w') : Zq w' A n L := ⟨(h.1.below hb).mono hb.size, h.2⟩
theorem Zq.len {w : World} {A : Option Addr} {n : Nat} {L : List Int} (h : Zq w A n L) : L.length = n := by
  have := h.1.1
  rwa [zi_len] at this
/-- What of the other indices has been seen. -/
def Seen (L O : List Int) (i : Nat) : Prop := ∃ K : List Nat, K.length = i ∧ Inc L K ∧ (0 < i → ∃ (b : Nat) (K' : List Nat), K = K' ++ [b] ∧ at_ O (i - 1) = (b : Int))
theorem Seen.first {L O : List Int} (h0 : 0 ≤ at_ O 0) (h1 : at_ O 0 < L.length) : Seen L O 1 :=
  ⟨[(at_ O 0).toNat], rfl, (show _ < _ by omega), fun _ => ⟨(at_ O 0).toNat, [], rfl, by show at_ O 0 = _; omega⟩⟩
theorem Seen.more {L O : List Int} {i : Nat} (h : Seen L O i) (hi : 0 < i) (h0 : 0 ≤ at_ O i) (h1 : at_ O i < L.length) (h2 : at_ O (i - 1) < at_ O i) (h3 : at_ L (at_ O (i - 1)).toNat < at_ L (at_ O i).toNat) : Seen L O (i + 1) := by
  obtain ⟨K, k1, k2, k3⟩ := h
  obtain ⟨b, K', e1, e2⟩ := k3 hi
  subst e1
  rw [e2] at h2 h3
  rw [Int.toNat_natCast] at h3
  exact ⟨K' ++ [b] ++ [(at_ O i).toNat], by rw [List.length_append, k1]; rfl, k2.snoc (by omega) h3 (by omega), fun _ => ⟨(at_ O i).toNat, K' ++ [b], rfl, by rw [Nat.add_sub_cancel]; omega⟩⟩
theorem Seen.prev {L O : List Int} {i : Nat} (h : Seen L O i) (hi : 0 < i) : 0 ≤ at_ O (i - 1) ∧ at_ O (i - 1) < L.length := by
  obtain ⟨K, k1, k2, k3⟩ := h
  obtain ⟨b, K', e1, e2⟩ := k3 hi
  subst e1
  rw [e2]
  have hb : b < L.length := by
    clear k1 k3 e2
    induction K' with
    | nil => exact k2
    | cons a K' ih =>
      cases K' with
      | nil => exact ih k2.2.2.2
      | cons b' K' => exact ih k2.2.2.2
  omega
theorem Seen.le {L O : List Int} {i : Nat} (h : Seen L O i) : i ≤ (ris L).length := by
  obtain ⟨K, k1, k2, _⟩ := h
  have := k2.le
  omega

set_option maxHeartbeats 8000000 in
set_option maxRecDepth 100000 in
theorem lawInc (L O : List Int) (n m c d : Nat) (A D : Option Addr) (w : World) (ha : Zq w A n L) (hb : Zq w D m O) :
    Calls Try.prog 8 #[.slice A n c, .slice D m d] w fun e w' => e = .returned (.bool true) ∧ Below w.heap.size w w' := by
  have HA := Lib.hid ha
  have HB := Lib.hid hb
  have hn1 := ha.2
  have hm1 := hb.2
  have HAw := Lib.hid (awake_any w)
  clear ha hb
  go_enter Try.func8, Try.ntmps8
  go_wp2_with fail
  with_reducible refine (HAw.out).mono ?_
  rintro e w1 ⟨rfl, hb1⟩
  have hb1z := hb1.size
  by_cases hn : 60 < n
  · go_wp2
    go_ret
    exact ⟨rfl, hb1⟩
  · by_cases hm : 60 < m
    · go_wp2
      go_ret
      exact ⟨rfl, hb1⟩
    · have hLn := HA.out.len
      have HLn := Lib.hid hLn
      have hLi := lis_any L n c A w1 (HA.out.below hb1).1 (by omega)
      rw [show lis L = ris L by unfold lis; rw [if_neg (by omega)]] at hLi
      have HLi := Lib.hid hLi
      clear hLi hLn
      obtain ⟨K, hK⟩ : ∃ K, K = ris L := ⟨_, rfl⟩
      rw [← hK] at HLi
      have HK := Lib.hid hK
      clear hK
      go_wp2_with fail
      with_reducible refine (HLi.out).mono ?_
      rintro e w2 ⟨⟨A2, q, c2, rfl, hq, hown2⟩, hb2⟩
      have hb02 := hb1.trans (hb2.mono hb1z)
      have hb02z := hb02.size
      have HV2 := Lib.hid (ValsAt.of_own hown2)
      have hrs := ris_any L n c A w2 (HA.out.below hb02).1 (by omega)
      rw [← HK.out] at hrs
      have HRs := Lib.hid hrs
      have HQ := Lib.hid hq
      have hq63 : q ≤ 60 := by
        have h1 := mx_le L n (by have := HLn.out; omega)
        have h2 := ris_len L
        rw [← HK.out, ← hq, HLn.out] at h2
        have := HLn.out
        omega
      clear hown2 hq hrs
      go_wp2_with fail
      with_reducible refine (HRs.out).mono ?_
      rintro e w3 ⟨⟨A3, q3, c3, rfl, hq3, hown3⟩, hb3⟩
      obtain rfl : q3 = q := hq3.trans HQ.out.symm
      have hb03 := hb02.trans (hb3.mono hb02z)
      have hb03z := hb03.size
      have HIn : Hid (Calls Try.prog 25 #[.slice A2 q3 c2, .slice A3 q3 c3] w3 fun e w' => e = .returned (.bool true) ∧ Below w3.heap.size w3 w') := Lib.hid (by
        have h1 := (HV2.out.below hb3).mono hb3.size
        have h2 := ValsAt.of_own hown3
        rw [iv_zi] at h1 h2
        refine (ints_any _ _ w3.heap.size q3 q3 c2 c3 A2 A3 w3 h1 h2 (by omega) (by omega) (Nat.le_refl _)).mono fun _ _ ⟨he, hq⟩ => ⟨?_, drew_below hq⟩
        rw [decide_eq_true rfl] at he
        exact he)
      clear hown3 hq3
      go_wp2_with fail
      with_reducible refine (HIn.out).mono ?_
      rintro e w4 ⟨rfl, hb4⟩
      have hb04 := hb03.trans (hb4.mono hb03z)
      have hb04z := hb04.size
      go_wp2
      go_loopw [6] (fun i wr => ∃ k : Nat, k ≤ m ∧ i = .int .i64 k ∧ Seen L O k ∧ ∃ z, wr = w4.drewN z) (fun i _ => m - (intOf i).toNat)
      case atStart => exact ⟨0, Nat.zero_le _, rfl, ⟨[], rfl, trivial, fun h => absurd h (by omega)⟩, 0, rfl⟩
      case round =>
        obtain ⟨k, hk, rfl, hs, hq⟩ := hrel
        have HS := Lib.hid hs
        have HQd := Lib.hid hq
        have hbr : Below w.heap.size w wr := hb04.trans ((drew_below hq).mono hb04z)
        clear hs hq
        by_cases hlt : k < m
        · obtain ⟨b2, off2, rfl, _, s1⟩ := HB.out.1.zat hbr hlt
          obtain ⟨x, hx⟩ : ∃ x, x = at_ O k := ⟨_, rfl⟩
          rw [← hx] at s1
          have HX := Lib.hid hx
          clear hx
          by_cases hx0 : x < 0
          · go_wp2
            go_quiet (fail)
            go_wp2
            go_ret
            exact ⟨rfl, below_drawn hbr _⟩
          · have dx0 : decide (x < 0) = false := decide_eq_false hx0
            by_cases hxn : (n : Int) ≤ x
            · go_wp2
              go_quiet (fail)
              go_wp2
              go_ret
              exact ⟨rfl, below_drawn hbr _⟩
            · have dxn : decide ((n : Int) ≤ x) = false := decide_eq_false hxn
              by_cases hk0 : 0 < k
              · obtain ⟨hy0, hyn⟩ := HS.out.prev hk0
                rw [HLn.out] at hyn
                obtain ⟨b3, off3, he, _, s2⟩ := HB.out.1.zat hbr (k := k - 1) (by omega)
                obtain ⟨rfl, rfl⟩ : b2 = b3 ∧ off2 = off3 := by simpa using he
                obtain ⟨y, hy⟩ : ∃ y, y = at_ O (k - 1) := ⟨_, rfl⟩
                rw [← hy] at s2 hy0 hyn
                have HY := Lib.hid hy
                obtain ⟨b, off, rfl, _, s3⟩ := HA.out.1.zat hbr (k := x.toNat) (by omega)
                obtain ⟨b4, off4, he4, _, s4⟩ := HA.out.1.zat hbr (k := y.toNat) (by omega)
                obtain ⟨rfl, rfl⟩ : b = b4 ∧ off = off4 := by simpa using he4
                obtain ⟨v, hv⟩ : ∃ v, v = at_ L x.toNat := ⟨_, rfl⟩
                obtain ⟨u, hu⟩ : ∃ u, u = at_ L y.toNat := ⟨_, rfl⟩
                rw [← hv] at s3
                rw [← hu] at s4
                have HU := Lib.hid hu
                have HV := Lib.hid hv
                have t1 : ((k : Int) - 1).toNat = k - 1 := by omega
                have t2 : 0 ≤ ((k : Int) - 1) := by omega
                have t3 : ((k : Int) - 1) < m := by omega
                have g1 : IntKind.i64.wrap ((k : Int) - 1) = (k : Int) - 1 := by rw [IntKind.wrap_i64]; omega
                clear hy hu hv he he4
                by_cases hyx : x ≤ y
                · go_wp2
                  go_quiet (fail)
                  go_wp2
                  go_ret
                  exact ⟨rfl, below_drawn hbr _⟩
                · have dyx : decide (x ≤ y) = false := decide_eq_false hyx
                  by_cases huv : v ≤ u
                  · go_wp2
                    go_quiet (fail)
                    go_wp2
                    go_ret
                    exact ⟨rfl, below_drawn hbr _⟩
                  · have duv : decide (v ≤ u) = false := decide_eq_false huv
                    have HSn := Lib.hid (HS.out.more hk0 (by rw [← HX.out]; omega) (by rw [← HX.out, HLn.out]; omega) (by rw [← HX.out, ← HY.out]; omega) (by rw [← HX.out, ← HY.out, ← HU.out, ← HV.out]; omega))
                    go_wp2
                    go_quiet (fail)
                    go_wp2
                    go_roundw
                    case rel => exact ⟨k + 1, by omega, by go_num, HSn.out, drew_more HQd.out _⟩
                    case measure => simp [intOf]; omega
              · obtain rfl : k = 0 := by omega
                rw [Nat.add_zero] at s1
                have HSn := Lib.hid (Seen.first (L := L) (O := O) (by rw [← HX.out]; omega) (by rw [← HX.out, HLn.out]; omega))
                go_wp2
                go_quiet (fail)
                go_wp2
                go_roundw
                case rel => exact ⟨1, by omega, by go_num, HSn.out, drew_more HQd.out _⟩
                case measure => simp [intOf]; omega
        · obtain rfl : k = m := by omega
          have hle := HS.out.le
          rw [← HK.out, ← HQ.out] at hle
          go_wp2
          go_ret
          exact ⟨rfl, hbr⟩
theorem lawInc' {L0 L1 : List Int} {n0 n1 c0 c1 : Nat} {A0 A1 : Option Addr} {w : World} (h0 : Zq w A0 n0 L0) (h1 : Zq w A1 n1 L1) :
    Calls Try.prog 8 #[.slice A0 n0 c0, .slice A1 n1 c1] w fun e w' => e = .returned (.bool true) ∧ Below w.heap.size w w' := lawInc L0 L1 n0 n1 c0 c1 A0 A1 w h0 h1
end Go.Proofs.Ytklegjmlpaimpaa
