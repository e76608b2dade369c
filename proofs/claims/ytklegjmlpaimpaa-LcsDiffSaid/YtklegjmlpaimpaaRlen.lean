/-
  The contract of the reference's table of lengths, which is stored row by row.
-/
import Derived.Test.YtklegjmlpaimpaaLen
namespace Go.Proofs.Ytklegjmlpaimpaa
open Go.RowKit (wrap32 wrap64 intOf Hid Below)
open Lcs

theorem flat_inj {M i j a b : Nat} (hj : j < M) (hb : b < M) (h : i * M + j = a * M + b) : i = a ∧ j = b := by
  rcases Nat.lt_trichotomy i a with hh | hh | hh
  · have h1 := Nat.mul_le_mul_right M (show i + 1 ≤ a by omega)
    rw [Nat.add_mul, Nat.one_mul] at h1
    omega
  · subst hh
    exact ⟨rfl, by omega⟩
  · have h1 := Nat.mul_le_mul_right M (show a + 1 ≤ i by omega)
    rw [Nat.add_mul, Nat.one_mul] at h1
    omega
/-- A table of numbers row by row. -/
structure FlatW (w : World) (g n M : Nat) (V : Nat → Nat → Nat) : Prop where
  lt : g < w.heap.size
  cell : ∀ i j, i ≤ n → j < M → w.cell? ⟨g, i * M + j, none⟩ = some (.int .i64 (V i j : Nat))
  free : ∀ o, w.frozen? ⟨g, o, none⟩ = false
theorem FlatW.drawn {w w' : World} {g n M : Nat} {V : Nat → Nat → Nat} (h : FlatW w g n M V) (hq : ∃ q, w' = w.drewN q) : FlatW w' g n M V := by
  obtain ⟨q, rfl⟩ := hq
  exact ⟨h.lt, h.cell, h.free⟩
theorem FlatW.below {w w' : World} {g n M : Nat} {V : Nat → Nat → Nat} (h : FlatW w g n M V) (hb : Below w.heap.size w w') : FlatW w' g n M V :=
  ⟨Nat.lt_of_lt_of_le h.lt hb.size, fun i j hi hj => (hb.cell (p := ⟨g, i * M + j, none⟩) h.lt).trans (h.cell i j hi hj), fun o => (hb.frozen (p := ⟨g, o, none⟩) h.lt).trans (h.free o)⟩
theorem FlatW.store {w : World} {g n M : Nat} {V : Nat → Nat → Nat} (h : FlatW w g n M V) (i j v : Nat) (hi : i ≤ n) (hj : j < M) : FlatW (w.setCell ⟨g, i * M + j, none⟩ (.int .i64 (v : Nat))) g n M (upd V i j v) := by
  refine ⟨by simpa using h.lt, fun a b ha hb => ?_, fun o => by rw [World.frozen?_setCell]; exact h.free o⟩
  by_cases e : a = i ∧ b = j
  · obtain ⟨rfl, rfl⟩ := e
    rw [World.cell?_setCell_same _ _ _ (h.cell a b ha hb)]
    simp [upd]
  · rw [World.cell?_setCell_other _ _ _ _ (by
      intro e'
      injection e' with _ e2
      obtain ⟨h1, h2⟩ := flat_inj hj hb e2
      exact e ⟨h1.symm, h2.symm⟩), h.cell a b ha hb]
    simp [upd, e]
/-- What the round stores. -/
theorem T_max {La Lb : List Str} {i j : Nat} (hi : i < La.length) (hj : j < Lb.length) : T La Lb i j = max (max (T La Lb (i + 1) j) (T La Lb i (j + 1))) (if st La i = st Lb j then T La Lb (i + 1) (j + 1) + 1 else 0) := by
  by_cases he : st La i = st Lb j
  · rw [if_pos he, T_same hi hj he]
    have h1 := T_right1 (a := La) (b := Lb) (i := i + 1) (j := j) hj
    have h2 := T_down1 (a := La) (b := Lb) (i := i) (j := j + 1) hi
    omega
  · rw [if_neg he, T_other hi hj he]
    omega
theorem Good.put {La Lb : List Str} {n m i j v : Nat} {V : Nat → Nat → Nat} (h : Good La Lb n m (i + 1) (j + 1) V) (hv : v = T La Lb i j) (hj : j < m) : Good La Lb n m (i + 1) j (upd V i j v) := by
  subst hv
  refine ⟨fun a b h1 h2 h3 => ?_, fun b h1 h2 h3 => ?_, fun a => ?_⟩
  · unfold upd
    rw [if_neg (by omega)]
    exact h.1 a b h1 h2 h3
  · rw [Nat.add_sub_cancel]
    unfold upd
    by_cases e : b = j
    · rw [if_pos ⟨rfl, e⟩, e]
    · rw [if_neg (by omega)]
      have := h.2.1 b (by omega) h2 h3
      rwa [Nat.add_sub_cancel] at this
  · unfold upd
    rw [if_neg (by omega)]
    exact h.2.2 a

set_option maxHeartbeats 2000000 in
set_option maxRecDepth 100000 in
theorem rlengths_any (La Lb : List Str) (n m c d : Nat) (A D : Option Addr) (w : World) (ha : ValsAt w.heap.size w A n (sv La)) (hb : ValsAt w.heap.size w D m (sv Lb)) (hn : n ≤ 1000) (hm : m ≤ 1000) :
    Calls Try.prog 29 #[.slice A n c, .slice D m d] w fun e w' => e = .returned (.slice (some ⟨w.heap.size, 0, none⟩) ((n + 1) * (m + 1)) ((n + 1) * (m + 1))) ∧ FlatW w' w.heap.size n (m + 1) (T La Lb) ∧ Below w.heap.size w w' := by
  obtain ⟨M, hM⟩ : ∃ M, M = m + 1 := ⟨_, rfl⟩
  have hP : (n + 1) * M ≤ 1002001 := by rw [hM]; exact Nat.mul_le_mul (by omega : n + 1 ≤ 1001) (by omega : m + 1 ≤ 1001)
  rw [← hM]
  obtain ⟨P, hPe⟩ : ∃ P, P = (n + 1) * M := ⟨_, rfl⟩
  rw [← hPe] at hP ⊢
  obtain ⟨Z, hZs, hZ, hmk⟩ := make_ints P (by omega)
  have hw : IntKind.i64.wrap (((n : Int) + 1) * ((m : Int) + 1)) = (P : Int) := by
    have e : ((n : Int) + 1) * ((m : Int) + 1) = (P : Int) := by rw [hPe, hM]; push_cast; rfl
    rw [e, IntKind.wrap_i64]; omega
  have hLa := ha.1
  have hLb := hb.1
  rw [sv_len] at hLa hLb
  have HLa := Lib.hid hLa
  have HLb := Lib.hid hLb
  have HA := Lib.hid ha
  have HB := Lib.hid hb
  have HZ := Lib.hid hZ
  have HM := Lib.hid hM
  have HP := Lib.hid hPe
  clear hLa hLb ha hb hZ hZs hM hPe
  go_enter Try.func29, Try.ntmps29
  go_wp2
  go_loopw [7] (fun z wv => ∃ (k : Nat) (x : Int) (V : Nat → Nat → Nat), k ≤ n ∧ x = (k : Int) - 1 ∧ z = .int .i64 x ∧ FlatW wv w.heap.size n M V ∧ Below w.heap.size w wv ∧ (∀ a b, V a b ≤ 1000) ∧ Good La Lb n m k m V) (fun z _ => (intOf z + 1).toNat)
  case atStart =>
    refine ⟨n, _, (fun _ _ => 0), Nat.le_refl _, rfl, rfl, ⟨by simp, fun i j hi hj => ?_, fun o => ?_⟩, alloc_below _ _, fun _ _ => Nat.zero_le _, Good.start HLa.out HLb.out⟩
    · rw [World.cell?_alloc_at _ _ _ _ rfl]
      refine HZ.out _ ?_
      have h1 := Nat.mul_le_mul_right M (show i + 1 ≤ n + 1 by omega)
      rw [← HP.out, Nat.add_mul, Nat.one_mul] at h1
      omega
    · exact World.frozen?_alloc_new w Z _ o
  case round =>
    rename World => wo
    obtain ⟨k, x, V, hk, hx, rfl, hF, hbo, hV, hG⟩ := hrel
    have HF := Lib.hid hF
    have HG := Lib.hid hG
    have HV := Lib.hid hV
    clear hF hG hV
    by_cases h0 : 0 < k
    · obtain ⟨i, rfl⟩ : ∃ i : Nat, x = i := ⟨k - 1, by omega⟩
      obtain rfl : k = i + 1 := by omega
      clear hx h0
      obtain ⟨K0, hK0⟩ : ∃ K0, K0 = i * M := ⟨_, rfl⟩
      obtain ⟨K1, hK1⟩ : ∃ K1, K1 = (i + 1) * M := ⟨_, rfl⟩
      have hK : K1 = K0 + M := by rw [hK1, hK0, Nat.add_mul, Nat.one_mul]
      have hKP : K1 + M ≤ P := by
        have h1 := Nat.mul_le_mul_right M (show i + 1 + 1 ≤ n + 1 by omega)
        rw [← HP.out, Nat.add_mul (i + 1) 1, Nat.one_mul, ← hK1] at h1
        exact h1
      have hw1 : IntKind.i64.wrap (((i : Int) + 1) * ((m : Int) + 1)) = (K1 : Int) := by
        have e : ((i : Int) + 1) * ((m : Int) + 1) = (K1 : Int) := by rw [hK1, HM.out]; push_cast; rfl
        rw [e, IntKind.wrap_i64]; omega
      have hw0 : IntKind.i64.wrap ((i : Int) * ((m : Int) + 1)) = (K0 : Int) := by
        have e : (i : Int) * ((m : Int) + 1) = (K0 : Int) := by rw [hK0, HM.out]; push_cast; rfl
        rw [e, IntKind.wrap_i64]; omega
      have HK := Lib.hid hK
      have HK0 := Lib.hid hK0
      have HK1 := Lib.hid hK1
      have hM2 : m < M := by have := HM.out; omega
      clear hK hK0 hK1
      have hKl : K0 + M ≤ K1 := by have := HK.out; omega
      go_wp2
      go_loopw [8, 9] (fun z y wv => ∃ (l : Nat) (x : Int) (V : Nat → Nat → Nat), l ≤ m ∧ x = (l : Int) - 1 ∧ z = .int .i64 x ∧ FlatW wv w.heap.size n M V ∧ Below w.heap.size w wv ∧ (∀ a b, V a b ≤ 1000) ∧ Good La Lb n m (i + 1) l V) (fun z _ _ => (intOf z + 1).toNat)
      case atStart => exact ⟨m, _, _, Nat.le_refl _, rfl, rfl, HF.out, hbo, HV.out, HG.out⟩
      case round =>
        rename World => wi
        obtain ⟨l, x, V, hl, hx, rfl, hF, hbi, hV, hG⟩ := hrel
        by_cases h0 : 0 < l
        · obtain ⟨j, rfl⟩ : ∃ j : Nat, x = j := ⟨l - 1, by omega⟩
          obtain rfl : l = j + 1 := by omega
          clear hx h0
          have c1 := hF.cell (i + 1) j (by omega) (by omega)
          have c2 := hF.cell i (j + 1) (by omega) (by omega)
          have c3 := hF.cell (i + 1) (j + 1) (by omega) (by omega)
          have c0 := hF.cell i j (by omega) (by omega)
          have f0 := hF.free (K0 + j)
          rw [← HK1.out] at c1 c3
          rw [← HK0.out] at c2 c0
          rw [← Nat.add_assoc] at c2 c3
          have b1 := hV (i + 1) j
          have b2 := hV i (j + 1)
          have b3 := hV (i + 1) (j + 1)
          have HT := Lib.hid (show max (max (V (i + 1) j) (V i (j + 1))) (if st La i = st Lb j then V (i + 1) (j + 1) + 1 else 0) = T La Lb i j by
            rw [hG.1 (i + 1) j (Nat.le_refl _) (by omega) (by omega), hG.1 (i + 1) (j + 1) (Nat.le_refl _) (by omega) (by omega)]
            have h3 := hG.2.1 (j + 1) (Nat.le_refl _) (by omega) (by omega)
            rw [Nat.add_sub_cancel] at h3
            rw [h3]
            exact (T_max (by have := HLa.out; omega) (by have := HLb.out; omega)).symm)
          have HF := Lib.hid hF
          have HG := Lib.hid hG
          have HV := Lib.hid hV
          have t1 : ((K1 : Int) + (j : Int)).toNat = K1 + j := by omega
          have t0 : ((K0 : Int) + (j : Int)).toNat = K0 + j := by omega
          have t1' : ((K1 : Int) + (j : Int) + 1).toNat = K1 + j + 1 := by omega
          have t0' : ((K0 : Int) + (j : Int) + 1).toNat = K0 + j + 1 := by omega
          obtain ⟨b, off, rfl, _, s1⟩ := HA.out.str hbi (k := i) (by omega)
          obtain ⟨b', off', rfl, _, s2⟩ := HB.out.str hbi (k := j) (by omega)
          have hs := str_eq (st La i) (st Lb j)
          clear hF hG hV
          generalize V (i + 1) (j + 1) = x3 at *
          generalize V (i + 1) j = x1 at *
          generalize V i (j + 1) = x2 at *
          generalize V i j = x0 at *
          have fin : ∀ (v : Nat) (wq : World), (∃ q, wq = (wi.drewN q).setCell ⟨w.heap.size, K0 + j, none⟩ (.int .i64 (v : Nat))) → v = max (max x1 x2) (if st La i = st Lb j then x3 + 1 else 0) →
              ∃ (l : Nat) (x : Int) (V : Nat → Nat → Nat), l ≤ m ∧ x = (l : Int) - 1 ∧ (Value.int .i64 ((j : Int) - 1)) = .int .i64 x ∧ FlatW wq w.heap.size n M V ∧ Below w.heap.size w wq ∧ (∀ a b, V a b ≤ 1000) ∧ Good La Lb n m (i + 1) l V := by
            rintro v wq ⟨q, rfl⟩ hv
            rw [HT.out] at hv
            have hT := T_le La Lb i j
            refine ⟨j, _, upd V i j v, by omega, rfl, rfl, ?_, (below_drawn hbi q).setCell (by simp) _, fun a b => ?_, HG.out.put hv (by omega)⟩
            · rw [HK0.out]
              exact (HF.out.drawn ⟨q, rfl⟩).store i j v (by omega) (by omega)
            · unfold upd
              split
              · have := HLa.out; omega
              · exact HV.out a b
          have FN := Lib.hid fin
          clear fin HT
          by_cases he : st La i = st Lb j
          · rw [decide_eq_true he] at hs
            have HE := Lib.hid he
            clear he
            by_cases h12 : x1 < x2
            · by_cases h3 : x2 < x3 + 1
              · have h3' : (x2 : Int) < (x3 : Int) + 1 := by omega
                go_wp2
                go_quiet (fail)
                go_wp2
                go_roundw
                case rel => exact FN.out (x3 + 1) _ ⟨_, rfl⟩ (by rw [if_pos HE.out]; omega)
                case measure => simp [intOf]
              · have h3' : ¬ ((x2 : Int) < (x3 : Int) + 1) := by omega
                have h3d : decide ((x2 : Int) < (x3 : Int) + 1) = false := decide_eq_false h3'
                go_wp2
                go_quiet (fail)
                go_wp2
                go_roundw
                case rel => exact FN.out x2 _ ⟨_, rfl⟩ (by rw [if_pos HE.out]; omega)
                case measure => simp [intOf]
            · by_cases h3 : x1 < x3 + 1
              · have h3' : (x1 : Int) < (x3 : Int) + 1 := by omega
                go_wp2
                go_quiet (fail)
                go_wp2
                go_roundw
                case rel => exact FN.out (x3 + 1) _ ⟨_, rfl⟩ (by rw [if_pos HE.out]; omega)
                case measure => simp [intOf]
              · have h3' : ¬ ((x1 : Int) < (x3 : Int) + 1) := by omega
                have h3d : decide ((x1 : Int) < (x3 : Int) + 1) = false := decide_eq_false h3'
                go_wp2
                go_quiet (fail)
                go_wp2
                go_roundw
                case rel => exact FN.out x1 _ ⟨_, rfl⟩ (by rw [if_pos HE.out]; omega)
                case measure => simp [intOf]
          · rw [decide_eq_false he] at hs
            have HE := Lib.hid he
            clear he
            by_cases h12 : x1 < x2
            · go_wp2
              go_quiet (fail)
              go_wp2
              go_roundw
              case rel => exact FN.out x2 _ ⟨_, rfl⟩ (by rw [if_neg HE.out]; omega)
              case measure => simp [intOf]
            · go_wp2
              go_quiet (fail)
              go_wp2
              go_roundw
              case rel => exact FN.out x1 _ ⟨_, rfl⟩ (by rw [if_neg HE.out]; omega)
              case measure => simp [intOf]
        · obtain rfl : l = 0 := by omega
          obtain rfl : x = -1 := by omega
          have HF := Lib.hid hF
          have HV := Lib.hid hV
          have HD := Lib.hid (hG.down HLb.out)
          clear hx h0 hG hF hV
          go_wp2
          go_roundw
          case rel => exact ⟨i, _, _, by omega, rfl, rfl, HF.out, hbi, HV.out, HD.out⟩
          case measure => simp [intOf]
    · obtain rfl : k = 0 := by omega
      obtain rfl : x = -1 := by omega
      clear hx h0
      go_wp2
      go_ret
      refine ⟨rfl, ⟨HF.out.lt, fun i j hi hj => ?_, HF.out.free⟩, hbo⟩
      rw [HM.out] at hj
      have h1 := HF.out.cell i j hi (by have := HM.out; omega)
      rw [HG.out.1 i j (by omega) hi (by omega)] at h1
      exact h1
end Go.Proofs.Ytklegjmlpaimpaa
