/-
  The contracts of increasingLengths, LongestIncreasing and Ints.
-/
import Derived.Test.YtklegjmlpaimpaaLen
import Derived.Test.YtklegjmlpaimpaaRise
namespace Go.Proofs.Ytklegjmlpaimpaa
open Go.RowKit (wrap32 wrap64 intOf Hid Below)
open Lcs Rise

/-- The values of a list of integers. -/
def zi (L : List Int) : List Value := L.map (Value.int .i64)
theorem zi_len (L : List Int) : (zi L).length = L.length := by simp [zi]
theorem zi_at {L : List Int} {k : Nat} (hk : k < L.length) : (zi L)[k]? = some (.int .i64 (at_ L k)) := by
  unfold zi at_
  rw [List.getElem?_map, List.getD, List.getElem?_eq_getElem hk]
  rfl
theorem ValsAt.zat {B : Nat} {w wr : World} {A : Option Addr} {n : Nat} {L : List Int} (h : ValsAt B w A n (zi L)) (hb : Below B w wr) {k : Nat} (hk : k < n) :
    ∃ b off, A = some ⟨b, off, none⟩ ∧ b < B ∧ wr.cell? ⟨b, off + k, none⟩ = some (.int .i64 (at_ L k)) := by
  obtain ⟨b, off, e, hlt, hc⟩ := (h.below hb).2 (by omega)
  exact ⟨b, off, e, hlt, hc k _ (zi_at (by have := h.1; rw [zi_len] at this; omega))⟩
theorem iv_zi (K : List Nat) : iv K = zi (K.map fun (n : Nat) => (n : Int)) := by simp [iv, zi]
theorem zi_ext {a b : List Int} (hl : a.length = b.length) (h : ∀ k, k < a.length → at_ a k = at_ b k) : a = b := by
  refine List.ext_getElem hl fun k h1 h2 => ?_
  have := h k h1
  rwa [at_eq h1, at_eq h2] at this

set_option maxHeartbeats 1000000 in
theorem ints_any (La Lb : List Int) (B N M ca cb : Nat) (Aa Ab : Option Addr) (w : World) (hza : ValsAt B w Aa N (zi La)) (hzb : ValsAt B w Ab M (zi Lb)) (hN : N ≤ 9223372036854775807) (hM : M ≤ 9223372036854775807) (hB : B ≤ w.heap.size) :
    Calls Try.prog 25 #[.slice Aa N ca, .slice Ab M cb] w fun e w' => e = .returned (.bool (decide (La = Lb))) ∧ ∃ q, w' = w.drewN q := by
  have HLA := Lib.hid hza.1
  have HLB := Lib.hid hzb.1
  rw [zi_len] at HLA HLB
  by_cases hNM : N = M
  · subst hNM
    go_enter Try.func25, Try.ntmps25
    go_wp2
    go_loopw [5] (fun i wr => ∃ k : Nat, k ≤ N ∧ i = .int .i64 k ∧ (∃ q, wr = w.drewN q) ∧ ∀ j, j < k → at_ La j = at_ Lb j) (fun i _ => N - (intOf i).toNat)
    case atStart => exact ⟨0, Nat.zero_le _, rfl, ⟨0, rfl⟩, fun j hj => absurd hj (by omega)⟩
    case round =>
      obtain ⟨k, hk, rfl, hq, hg⟩ := hrel
      have HG := Lib.hid hg
      have HQ := Lib.hid hq
      by_cases hlt : k < N
      · have hbb : Below B w wr := (drew_below hq).mono hB
        obtain ⟨b, off, rfl, hB, h1⟩ := hza.zat hbb hlt
        obtain ⟨b', off', rfl, hB', h1'⟩ := hzb.zat hbb hlt
        clear hza hzb hq hg hbb
        by_cases he : at_ La k = at_ Lb k
        · have e1 : (at_ La k != at_ Lb k) = false := by simpa using he
          have HE := Lib.hid he
          clear he
          go_wp2
          go_quiet (fail)
          go_wp2
          go_roundw
          case rel => exact ⟨k + 1, by omega, by go_num, drew_more HQ.out _, fun j hj => by
            by_cases h : j = k
            · subst h; exact HE.out
            · exact HG.out j (by omega)⟩
          case measure => simp [intOf]; omega
        · have e1 : (at_ La k != at_ Lb k) = true := by simpa using he
          have HE := Lib.hid he
          clear he
          go_wp2
          go_quiet (fail)
          go_wp2
          go_ret
          exact ⟨ret_bool (by
            symm
            rw [decide_eq_false_iff_not]
            intro h
            exact HE.out (by rw [h])), drew_more HQ.out _⟩
      · obtain rfl : k = N := by omega
        have HE : Hid (La = Lb) := Lib.hid (zi_ext (by have := HLA.out; have := HLB.out; omega) (fun j hj => HG.out j (by have := HLA.out; omega)))
        clear hza hzb hq hg
        go_wp2
        go_ret
        exact ⟨ret_bool (by symm; rw [decide_eq_true_iff]; exact HE.out), HQ.out⟩
  · have hne : ((N : Int) == M) = false := by rw [beq_eq_false_iff_ne]; omega
    have hne2 : ¬ ((N : Int) = M) := by omega
    clear hza hzb hNM
    go_enter Try.func25, Try.ntmps25
    go_wp2
    go_ret
    exact ⟨ret_bool (by
      symm
      rw [decide_eq_false_iff_not]
      intro h
      have := HLA.out
      have := HLB.out
      have := congrArg List.length h
      omega), 0, rfl⟩

/-- A row of numbers of the call's own. -/
structure RowW (w : World) (g n : Nat) (V : Nat → Nat) : Prop where
  lt : g < w.heap.size
  cell : ∀ i, i < n → w.cell? ⟨g, i, none⟩ = some (.int .i64 (V i : Nat))
  free : ∀ o, w.frozen? ⟨g, o, none⟩ = false
theorem RowW.drawn {w w' : World} {g n : Nat} {V : Nat → Nat} (h : RowW w g n V) (hq : ∃ q, w' = w.drewN q) : RowW w' g n V := by
  obtain ⟨q, rfl⟩ := hq
  exact ⟨h.lt, h.cell, h.free⟩
theorem RowW.below {w w' : World} {g n : Nat} {V : Nat → Nat} (h : RowW w g n V) (hb : Below w.heap.size w w') : RowW w' g n V :=
  ⟨Nat.lt_of_lt_of_le h.lt hb.size, fun i hi => (hb.cell (p := ⟨g, i, none⟩) h.lt).trans (h.cell i hi), fun o => (hb.frozen (p := ⟨g, o, none⟩) h.lt).trans (h.free o)⟩
theorem RowW.grown {w w' : World} {g n : Nat} {V : Nat → Nat} {row : Option Nat} (h : RowW w g n V) (hg : w.grownBy w' row) (hne : row ≠ some g) : RowW w' g n V := by
  have hb : w'.heap[g]? = w.heap[g]? := hg.block g h.lt (Ne.symm hne)
  exact ⟨Nat.lt_of_lt_of_le h.lt hg.size, fun i hi => (World.cell?_of_block (a := ⟨g, i, none⟩) hb).trans (h.cell i hi), fun o => (World.frozen?_of_block (a := ⟨g, o, none⟩) hb).trans (h.free o)⟩
def put1 (V : Nat → Nat) (i v : Nat) : Nat → Nat := fun a => if a = i then v else V a
theorem RowW.store {w : World} {g n : Nat} {V : Nat → Nat} (h : RowW w g n V) (i v : Nat) (hi : i < n) : RowW (w.setCell ⟨g, i, none⟩ (.int .i64 (v : Nat))) g n (put1 V i v) := by
  refine ⟨by simpa using h.lt, fun a ha => ?_, fun o => by rw [World.frozen?_setCell]; exact h.free o⟩
  by_cases e : a = i
  · subst e
    rw [World.cell?_setCell_same _ _ _ (h.cell a ha)]
    simp [put1]
  · rw [World.cell?_setCell_other _ _ _ _ (by intro e'; injection e' with _ e2; omega), h.cell a ha]
    simp [put1, e]
theorem RowW.made {w : World} {n : Nat} {Z : Array Value} (hZ : ∀ j, j < n → Z[j]? = some (.int .i64 0)) (t : TypeId) : RowW (w.alloc (.cells Z t)) w.heap.size n (fun _ => 0) :=
  ⟨by simp, fun i hi => by rw [World.cell?_alloc_at _ _ _ _ rfl]; exact hZ i hi, fun o => World.frozen?_alloc_new w Z t o⟩

set_option maxHeartbeats 4000000 in
set_option maxRecDepth 100000 in
theorem inclen_any (L : List Int) (n c : Nat) (A : Option Addr) (w : World) (ha : ValsAt w.heap.size w A n (zi L)) (hn : n ≤ 1000000) :
    Calls Try.prog 33 #[.slice A n c] w fun e w' => e = .returned (.slice (some ⟨w.heap.size, 0, none⟩) n n) ∧ RowW w' w.heap.size n (R L) ∧ Below w.heap.size w w' := by
  obtain ⟨Z, hZs, hZ, hmk⟩ := make_ints n (by omega)
  have hL := ha.1
  rw [zi_len] at hL
  have HL := Lib.hid hL
  have HA := Lib.hid ha
  have HZ := Lib.hid hZ
  clear hL ha hZ hZs
  go_enter Try.func33, Try.ntmps33
  go_wp2
  go_loopw [4, 5] (fun z _ wr => ∃ (k : Nat) (x : Int) (V : Nat → Nat), k ≤ n ∧ x = (k : Int) - 1 ∧ z = .int .i64 x ∧ RowW wr w.heap.size n V ∧ Below w.heap.size w wr ∧ (∀ a, k ≤ a → a < n → V a = R L a) ∧ ∀ a, a < k → V a = 0) (fun z _ _ => (intOf z + 1).toNat)
  case atStart => exact ⟨n, _, _, Nat.le_refl _, rfl, rfl, RowW.made HZ.out _, alloc_below _ _, fun a h1 h2 => absurd h1 (by omega), fun _ _ => rfl⟩
  case round =>
    rename World => wo
    obtain ⟨k, x, V, hk, hx, rfl, hW, hb, hr, h0⟩ := hrel
    have HW := Lib.hid hW
    have HR := Lib.hid hr
    have H0 := Lib.hid h0
    clear hW hr h0
    by_cases h0 : 0 < k
    · obtain ⟨i, rfl⟩ : ∃ i : Nat, x = i := ⟨k - 1, by omega⟩
      obtain rfl : k = i + 1 := by omega
      clear hx h0
      go_wp2
      go_loopw [5] (fun z wr => ∃ (k : Nat) (V : Nat → Nat), i + 1 ≤ k ∧ k ≤ n ∧ z = .int .i64 k ∧ RowW wr w.heap.size n V ∧ Below w.heap.size w wr ∧ (∀ a, i + 1 ≤ a → a < n → V a = R L a) ∧ (∀ a, a < i → V a = 0) ∧ B L i (i + 1) = max (V i) (B L i k)) (fun z _ => n - (intOf z).toNat)
      case atStart => exact ⟨i + 1, V, Nat.le_refl _, hk, by go_num, HW.out, hb, HR.out, fun a ha => H0.out a (by omega), by rw [H0.out i (by omega)]; omega⟩
      case round =>
        rename World => wi
        obtain ⟨k, V, hk1, hk2, rfl, hW, hb, hr, h0, hB⟩ := hrel
        have HW := Lib.hid hW
        have HR := Lib.hid hr
        have H0 := Lib.hid h0
        have HB := Lib.hid hB
        have hB0 := B_le L i _ (i + 1) (Nat.le_refl _)
        have hvi : V i ≤ 1000000 := by have := HL.out; omega
        clear hW hr h0 hB hB0
        have c0 := HW.out.cell i (by omega)
        have f0 := HW.out.free i
        by_cases hlt : k < n
        · obtain ⟨b, off, rfl, _, s1⟩ := HA.out.zat hb hlt
          have s2 : wi.cell? ⟨b, off + i, none⟩ = some (.int .i64 (at_ L i)) := by
            obtain ⟨b', off', he, _, h⟩ := HA.out.zat hb (k := i) (by omega)
            obtain ⟨rfl, rfl⟩ : b = b' ∧ off = off' := by simpa using he
            exact h
          have c1 := HW.out.cell k hlt
          have HRk := Lib.hid (HR.out k (by omega) hlt)
          have hrk : V k ≤ 1000000 := by have := R_le L k (by have := HL.out; omega); have := HL.out; have := HRk.out; omega
          by_cases hgt : at_ L i < at_ L k
          · have HBu := Lib.hid (B_up (by have := HL.out; omega) hgt)
            have fin : ∀ (v : Nat) (wq : World), (∃ q, wq = (wi.drewN q).setCell ⟨w.heap.size, i, none⟩ (.int .i64 (v : Nat))) → v = max (V i) (V k) →
                ∃ (k' : Nat) (V : Nat → Nat), i + 1 ≤ k' ∧ k' ≤ n ∧ (Value.int .i64 ((k : Int) + 1)) = .int .i64 k' ∧ RowW wq w.heap.size n V ∧ Below w.heap.size w wq ∧ (∀ a, i + 1 ≤ a → a < n → V a = R L a) ∧ (∀ a, a < i → V a = 0) ∧ B L i (i + 1) = max (V i) (B L i k') := by
              rintro v wq ⟨q, rfl⟩ hv
              refine ⟨k + 1, put1 V i v, by omega, by omega, rfl, (HW.out.drawn ⟨q, rfl⟩).store i v (by omega), (below_drawn hb q).setCell (by simp) _, fun a h1 h2 => ?_, fun a h1 => ?_, ?_⟩
              · unfold put1; rw [if_neg (by omega)]; exact HR.out a h1 h2
              · unfold put1; rw [if_neg (by omega)]; exact H0.out a h1
              · unfold put1; rw [if_pos rfl, hv, HB.out, HBu.out, HRk.out]; omega
            have FN := Lib.hid fin
            clear fin
            by_cases hm : V i < V k
            · go_wp2
              go_quiet (fail)
              go_wp2
              go_region
              go_wp2
              go_roundw
              case rel => exact FN.out (V k) _ ⟨_, rfl⟩ (by omega)
              case measure => simp [intOf]; omega
            · go_wp2
              go_quiet (fail)
              go_wp2
              go_region
              go_wp2
              go_roundw
              case rel => exact FN.out (V i) _ ⟨_, rfl⟩ (by omega)
              case measure => simp [intOf]; omega
          · have HBu := Lib.hid (B_no (l := L) (i := i) (k := k) (by have := HL.out; omega) (by omega))
            go_wp2
            go_quiet (fail)
            go_wp2
            go_roundw
            case rel => exact ⟨k + 1, V, by omega, by omega, by go_num, HW.out.drawn ⟨_, rfl⟩, below_drawn hb _, HR.out, H0.out, by rw [HB.out, HBu.out]⟩
            case measure => simp [intOf]; omega
        · obtain rfl : k = n := by omega
          have hE : V i + 1 = R L i := by
            have h1 := HB.out
            rw [B_end L i k (by have := HL.out; omega)] at h1
            unfold R
            omega
          have HE := Lib.hid hE
          have HS := Lib.hid (HW.out.store i (V i + 1) (by omega))
          clear hE
          go_wp2
          go_roundw
          case rel => exact ⟨i, _, put1 V i (V i + 1), by omega, rfl, rfl, HS.out, hb.setCell (by simp) _, fun a h1 h2 => by
            unfold put1
            by_cases e : a = i
            · rw [if_pos e, HE.out, e]
            · rw [if_neg e]; exact HR.out a (by omega) h2, fun a h1 => by unfold put1; rw [if_neg (by omega)]; exact H0.out a h1⟩
          case measure => simp [intOf]
    · obtain rfl : k = 0 := by omega
      obtain rfl : x = -1 := by omega
      clear hx h0
      go_wp2
      go_ret
      exact ⟨rfl, ⟨HW.out.lt, fun i hi => by rw [HW.out.cell i hi, HR.out i (by omega) hi], HW.out.free⟩, hb⟩
end Go.Proofs.Ytklegjmlpaimpaa
