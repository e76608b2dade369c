/-
  The contract of lengths: the table of the lengths of longest common subsequences.
-/
import Derived.Test.YtklegjmlpaimpaaTab
namespace Go.Proofs.Ytklegjmlpaimpaa
open Go.RowKit (wrap32 wrap64 intOf Hid Below)
open Lcs

theorem info_ints : (Try.prog.info? 44).map (fun i => (i.zero, i.size, i.bytes)) = some (some (.slice none 0 0), 1, 24) := by kernel_rfl
/-- What make([]int, n) does. -/
theorem make_ints (n : Nat) (hn : n ≤ 10000000) : ∃ Z : Array Value, Z.size = n ∧ (∀ j, j < n → Z[j]? = some (.int .i64 0)) ∧ ∀ W : World, (Instr.makeSlice 44 (.int .i64 (n : Int)) (.int .i64 (n : Int))).run Try.prog W = .ok (.slice (some ⟨W.heap.size, 0, none⟩) n n) (W.alloc (.cells Z 3)) := by
  obtain ⟨i0, hi, hz0, hz1, hz2⟩ := info_parts info_int
  refine ⟨madeCells #[.int .i64 0] n, size_madeCells _ _, fun j hj => by simp [madeCells, hj, Nat.mod_one], fun W => ?_⟩
  have h := run_make (P := Try.prog) W 44 3 i0 (.int .i64 0) Try.underlying44 hi hz0 .i64 .i64 (n : Int) (n : Int) (by omega) (Int.le_refl _) (by rw [hz2]; omega) (by omega)
  rw [Int.toNat_natCast, hz1, Nat.mul_one] at h
  exact h
theorem make_rows (n : Nat) (hn : n ≤ 10000000) : ∃ Z : Array Value, Z.size = n ∧ (∀ j, j < n → Z[j]? = some (.slice none 0 0)) ∧ ∀ W : World, (Instr.makeSlice 49 (.int .i64 (n : Int)) (.int .i64 (n : Int))).run Try.prog W = .ok (.slice (some ⟨W.heap.size, 0, none⟩) n n) (W.alloc (.cells Z 44)) := by
  obtain ⟨i0, hi, hz0, hz1, hz2⟩ := info_parts info_ints
  refine ⟨madeCells #[.slice none 0 0] n, size_madeCells _ _, fun j hj => by simp [madeCells, hj, Nat.mod_one], fun W => ?_⟩
  have h := run_make (P := Try.prog) W 49 44 i0 (.slice none 0 0) Try.underlying49 hi hz0 .i64 .i64 (n : Int) (n : Int) (by omega) (Int.le_refl _) (by rw [hz2]; omega) (by omega)
  rw [Int.toNat_natCast, hz1, Nat.mul_one] at h
  exact h

/-- The first k rows have been made. -/
structure Made (w wr : World) (n m c d k : Nat) (A D : Option Addr) : Prop where
  below : Below w.heap.size w wr
  size : wr.heap.size = w.heap.size + 4 + k
  ka : wr.cell? ⟨w.heap.size, 0, none⟩ = some (.slice A n c)
  kb : wr.cell? ⟨w.heap.size + 1, 0, none⟩ = some (.slice D m d)
  kt : wr.cell? ⟨w.heap.size + 1 + 1 + 1, 0, none⟩ = some (.slice (some ⟨w.heap.size + 1 + 1, 0, none⟩) (n + 1) (n + 1))
  fz : ∀ i, wr.frozen? ⟨w.heap.size + 1 + 1, i, none⟩ = false
  left : ∀ i, k ≤ i → i ≤ n → wr.cell? ⟨w.heap.size + 1 + 1, i, none⟩ = some (.slice none 0 0)
  outer : ∀ i, i < k → wr.cell? ⟨w.heap.size + 1 + 1, i, none⟩ = some (.slice (some ⟨w.heap.size + 4 + i, 0, none⟩) (m + 1) (m + 1))
  inner : ∀ i j, i < k → j ≤ m → wr.cell? ⟨w.heap.size + 4 + i, j, none⟩ = some (.int .i64 0)
  free : ∀ i j, i < k → wr.frozen? ⟨w.heap.size + 4 + i, j, none⟩ = false
theorem Made.more {w wr : World} {n m c d k : Nat} {A D : Option Addr} (h : Made w wr n m c d k A D) (hk : k ≤ n) {Z : Array Value} (hZ : ∀ j, j < m + 1 → Z[j]? = some (.int .i64 0)) (t : TypeId) :
    Made w (((wr.setCell ⟨w.heap.size + 1 + 1, k, none⟩ (.slice (some ⟨wr.heap.size, 0, none⟩) (m + 1) (m + 1))).alloc (.cells Z t)).drew) n m c d (k + 1) A D := by
  have hs := h.size
  obtain ⟨X, hX⟩ : ∃ X, X = wr.setCell ⟨w.heap.size + 1 + 1, k, none⟩ (.slice (some ⟨wr.heap.size, 0, none⟩) (m + 1) (m + 1)) := ⟨_, rfl⟩
  have hXs : X.heap.size = wr.heap.size := by rw [hX]; simp
  have hXo : ∀ b o, ¬ (b = w.heap.size + 1 + 1 ∧ o = k) → X.cell? ⟨b, o, none⟩ = wr.cell? ⟨b, o, none⟩ := fun b o hne => by
    rw [hX, World.cell?_setCell_other _ _ _ _ (by intro e; injection e with e1 e2; omega)]
  have hXk : X.cell? ⟨w.heap.size + 1 + 1, k, none⟩ = some (.slice (some ⟨wr.heap.size, 0, none⟩) (m + 1) (m + 1)) := by
    rw [hX]
    exact World.cell?_setCell_same _ _ _ (h.left k (Nat.le_refl _) hk)
  have hXf : ∀ b o, X.frozen? ⟨b, o, none⟩ = wr.frozen? ⟨b, o, none⟩ := fun b o => by rw [hX, World.frozen?_setCell]
  have hXb : Below w.heap.size w X := by rw [hX]; exact h.below.setCell (by simp only []; omega) _
  rw [← hX]
  have old : ∀ b o, b < wr.heap.size → ¬ (b = w.heap.size + 1 + 1 ∧ o = k) → ((X.alloc (.cells Z t)).drew).cell? ⟨b, o, none⟩ = wr.cell? ⟨b, o, none⟩ := fun b o hb hne =>
    (World.cell?_alloc_lt X (.cells Z t) ⟨b, o, none⟩ (by simp only []; omega)).trans (hXo b o hne)
  have oldf : ∀ b o, b < wr.heap.size → ((X.alloc (.cells Z t)).drew).frozen? ⟨b, o, none⟩ = wr.frozen? ⟨b, o, none⟩ := fun b o hb =>
    (World.frozen?_alloc_old X (.cells Z t) ⟨b, o, none⟩ (by simp only []; omega)).trans (hXf b o)
  have new : ∀ o, ((X.alloc (.cells Z t)).drew).cell? ⟨w.heap.size + 4 + k, o, none⟩ = Z[o]? := fun o => by
    have e : (X.alloc (.cells Z t)).cell? ⟨w.heap.size + 4 + k, o, none⟩ = Z[o]? := World.cell?_alloc_at _ _ _ _ (by omega)
    exact e
  refine ⟨(hXb.alloc (by omega) _).drew, ?_, ?_, ?_, ?_, fun i => ?_, fun i h1 h2 => ?_, fun i hi => ?_, fun i j hi hj => ?_, fun i j hi => ?_⟩
  · show (X.alloc (.cells Z t)).heap.size = _
    simp [hXs, hs]; omega
  · rw [old _ _ (by omega) (by omega)]; exact h.ka
  · rw [old _ _ (by omega) (by omega)]; exact h.kb
  · rw [old _ _ (by omega) (by omega)]; exact h.kt
  · rw [oldf _ _ (by omega)]; exact h.fz i
  · rw [old _ _ (by omega) (by omega)]; exact h.left i (by omega) h2
  · by_cases e : i = k
    · subst e
      rw [← hs]
      exact (World.cell?_alloc_lt X (.cells Z t) ⟨w.heap.size + 1 + 1, i, none⟩ (by simp only []; omega)).trans hXk
    · rw [old _ _ (by omega) (by omega)]; exact h.outer i (by omega)
  · by_cases e : i = k
    · subst e
      rw [new]; exact hZ j (by omega)
    · rw [old _ _ (by omega) (by omega)]; exact h.inner i j (by omega) hj
  · by_cases e : i = k
    · subst e
      have h1 := World.frozen?_alloc_new X Z t j
      rw [hXs, hs] at h1
      exact h1
    · rw [oldf _ _ (by omega)]; exact h.free i j (by omega)
theorem Made.start (w : World) (n m c d : Nat) (A D : Option Addr) {Z : Array Value} (hZ : ∀ j, j < n + 1 → Z[j]? = some (.slice none 0 0)) (t1 t2 t3 : TypeId) :
    Made w ((((w.alloc (.cells #[.slice A n c] t1)).alloc (.cells #[.slice D m d] t1)).alloc (.cells Z t2)).alloc (.cells #[.slice (some ⟨w.heap.size + 1 + 1, 0, none⟩) (n + 1) (n + 1)] t3)) n m c d 0 A D := by
  have e0 : (w.alloc (.cells #[.slice A n c] t1)).heap.size = w.heap.size + 1 := by simp
  have e1 : ((w.alloc (.cells #[.slice A n c] t1)).alloc (.cells #[.slice D m d] t1)).heap.size = w.heap.size + 1 + 1 := by simp
  have e2 : (((w.alloc (.cells #[.slice A n c] t1)).alloc (.cells #[.slice D m d] t1)).alloc (.cells Z t2)).heap.size = w.heap.size + 1 + 1 + 1 := by simp
  refine ⟨?_, by simp, ?_, ?_, ?_, fun i => ?_, fun i h1 h2 => ?_, fun i hi => absurd hi (by omega), fun i j hi => absurd hi (by omega), fun i j hi => absurd hi (by omega)⟩
  · exact ((((Below.refl _ _).alloc (Nat.le_refl _) _).alloc (by omega) _).alloc (by omega) _).alloc (by omega) _
  · rw [World.cell?_alloc_lt _ _ _ (by simp only [e2]; omega), World.cell?_alloc_lt _ _ _ (by simp only [e1]; omega), World.cell?_alloc_lt _ _ _ (by simp only [e0]; omega), World.cell?_alloc_at _ _ _ _ rfl]; rfl
  · rw [World.cell?_alloc_lt _ _ _ (by simp only [e2]; omega), World.cell?_alloc_lt _ _ _ (by simp only [e1]; omega), World.cell?_alloc_at _ _ _ _ (by simp only [e0])]; rfl
  · rw [World.cell?_alloc_at _ _ _ _ (by simp only [e2])]; rfl
  · rw [World.frozen?_alloc_old _ _ _ (by simp only [e2]; omega)]
    have h := World.frozen?_alloc_new ((w.alloc (.cells #[.slice A n c] t1)).alloc (.cells #[.slice D m d] t1)) Z t2 i
    rwa [e1] at h
  · rw [World.cell?_alloc_lt _ _ _ (by simp only [e2]; omega), World.cell?_alloc_at _ _ _ _ (by simp only [e1])]
    exact hZ i (by omega)
theorem Made.tab {w wr : World} {n m c d : Nat} {A D : Option Addr} (h : Made w wr n m c d (n + 1) A D) : TabW wr (w.heap.size + 1 + 1) (w.heap.size + 4) n m (fun _ _ => 0) :=
  ⟨by omega, by have := h.size; omega, fun i hi => h.outer i (by omega), fun i j hi hj => h.inner i j (by omega) hj, fun i j hi _ => h.free i j (by omega)⟩

/-- The table is being filled. -/
structure Filled (w wr : World) (n m c d : Nat) (A D : Option Addr) (V : Nat → Nat → Nat) : Prop where
  below : Below w.heap.size w wr
  tab : TabW wr (w.heap.size + 1 + 1) (w.heap.size + 4) n m V
  ka : wr.cell? ⟨w.heap.size, 0, none⟩ = some (.slice A n c)
  kb : wr.cell? ⟨w.heap.size + 1, 0, none⟩ = some (.slice D m d)
  kt : wr.cell? ⟨w.heap.size + 1 + 1 + 1, 0, none⟩ = some (.slice (some ⟨w.heap.size + 1 + 1, 0, none⟩) (n + 1) (n + 1))
  low : ∀ a b, V a b ≤ 1000000
theorem Made.filled {w wr : World} {n m c d : Nat} {A D : Option Addr} (h : Made w wr n m c d (n + 1) A D) : Filled w wr n m c d A D (fun _ _ => 0) :=
  ⟨h.below, h.tab, h.ka, h.kb, h.kt, fun _ _ => by omega⟩
theorem Filled.store {w wr w' : World} {n m c d i j v : Nat} {A D : Option Addr} {V : Nat → Nat → Nat} (h : Filled w wr n m c d A D V) (hi : i ≤ n) (hj : j ≤ m) (hv : v ≤ 1000000)
    (hw : ∃ q, w' = (wr.drewN q).setCell ⟨w.heap.size + 4 + i, j, none⟩ (.int .i64 (v : Nat))) : Filled w w' n m c d A D (upd V i j v) := by
  obtain ⟨q, rfl⟩ := hw
  refine ⟨(below_drawn h.below q).setCell (by simp only []; omega) _, (h.tab.drawn ⟨q, rfl⟩).store i j v hi hj, ?_, ?_, ?_, fun a b => ?_⟩
  · rw [World.cell?_setCell_other _ _ _ _ (by intro e; injection e with e1 e2; omega)]; exact h.ka
  · rw [World.cell?_setCell_other _ _ _ _ (by intro e; injection e with e1 e2; omega)]; exact h.kb
  · rw [World.cell?_setCell_other _ _ _ _ (by intro e; injection e with e1 e2; omega)]; exact h.kt
  · unfold upd; split
    · exact hv
    · exact h.low a b
/-- What of the table is as it is to be: rows from k on, and of row k - 1 what lies from l on. -/
def Good (La Lb : List Str) (n m k l : Nat) (V : Nat → Nat → Nat) : Prop :=
  (∀ a b, k ≤ a → a ≤ n → b ≤ m → V a b = T La Lb a b) ∧ (∀ b, l ≤ b → b ≤ m → 0 < k → V (k - 1) b = T La Lb (k - 1) b) ∧ (∀ a, V a m = 0)
theorem Good.start {La Lb : List Str} {n m : Nat} (hn : La.length = n) (hm : Lb.length = m) : Good La Lb n m n m (fun _ _ => 0) :=
  ⟨fun a b h1 _ _ => (T_end La Lb a b (by omega)).symm, fun b h1 _ _ => (T_end' La Lb _ b (by omega)).symm, fun _ => rfl⟩
theorem Good.down {La Lb : List Str} {n m i : Nat} {V : Nat → Nat → Nat} (h : Good La Lb n m (i + 1) 0 V) (hm : Lb.length = m) : Good La Lb n m i m V := by
  refine ⟨fun a b h1 h2 h3 => ?_, fun b h1 h2 h3 => ?_, h.2.2⟩
  · by_cases e : a = i
    · subst e; exact h.2.1 b (Nat.zero_le _) h3 (by omega)
    · exact h.1 a b (by omega) h2 h3
  · obtain rfl : b = m := by omega
    rw [h.2.2, T_end' La Lb _ _ (by omega)]
theorem Good.store {La Lb : List Str} {n m i j : Nat} {V : Nat → Nat → Nat} (h : Good La Lb n m (i + 1) (j + 1) V) (hn : La.length = n) (hm : Lb.length = m) (hi : i < n) (hj : j < m) : Good La Lb n m (i + 1) j (upd V i j (fillv La Lb V i j)) ∧ fillv La Lb V i j = T La Lb i j := by
  have e1 := h.1 (i + 1) (j + 1) (Nat.le_refl _) (by omega) (by omega)
  have e2 := h.1 (i + 1) j (Nat.le_refl _) (by omega) (by omega)
  have e3 := h.2.1 (j + 1) (Nat.le_refl _) (by omega) (by omega)
  rw [Nat.add_sub_cancel] at e3
  have ev : fillv La Lb V i j = T La Lb i j := by
    unfold fillv
    rw [e1, e2, e3]
    by_cases he : st La i = st Lb j
    · rw [if_pos he, T_same (by omega) (by omega) he]
    · rw [if_neg he, T_other (by omega) (by omega) he]
  refine ⟨⟨fun a b h1 h2 h3 => ?_, fun b h1 h2 h3 => ?_, fun a => ?_⟩, ev⟩
  · unfold upd
    rw [if_neg (by omega)]
    exact h.1 a b h1 h2 h3
  · rw [Nat.add_sub_cancel]
    unfold upd
    by_cases e : b = j
    · rw [if_pos ⟨rfl, e⟩, ev, e]
    · rw [if_neg (by omega)]
      have := h.2.1 b (by omega) h2 h3
      rwa [Nat.add_sub_cancel] at this
  · unfold upd
    rw [if_neg (by omega)]
    exact h.2.2 a

set_option maxHeartbeats 2000000 in
set_option maxRecDepth 100000 in
theorem lengths_any (La Lb : List Str) (n m c d : Nat) (A D : Option Addr) (w : World) (ha : ValsAt w.heap.size w A n (sv La)) (hb : ValsAt w.heap.size w D m (sv Lb)) (hn : n ≤ 1000000) (hm : m ≤ 1000000) :
    Calls Try.prog 27 #[.slice A n c, .slice D m d] w fun e w' => e = .returned (.slice (some ⟨w.heap.size + 1 + 1, 0, none⟩) (n + 1) (n + 1)) ∧ TabW w' (w.heap.size + 1 + 1) (w.heap.size + 4) n m (T La Lb) ∧ Below w.heap.size w w' := by
  obtain ⟨Z, hZs, hZ, hmk⟩ := make_rows (n + 1) (by omega)
  obtain ⟨Y, hYs, hY, hmk2⟩ := make_ints (m + 1) (by omega)
  rw [show ((n + 1 : Nat) : Int) = (n : Int) + 1 from rfl] at hmk
  rw [show ((m + 1 : Nat) : Int) = (m : Int) + 1 from rfl] at hmk2
  have hLa := ha.1
  have hLb := hb.1
  rw [sv_len] at hLa hLb
  have HLa := Lib.hid hLa
  have HLb := Lib.hid hLb
  have HA := Lib.hid ha
  have HB := Lib.hid hb
  have HZ := Lib.hid hZ
  have HY := Lib.hid hY
  clear hLa hLb ha hb hZ hY hZs hYs
  go_enter Try.func27, Try.ntmps27
  go_wp2
  go_loopw [16] (fun i wr => ∃ k : Nat, k ≤ n + 1 ∧ i = .int .i64 k ∧ Made w wr n m c d k A D) (fun i _ => n + 1 - (intOf i).toNat)
  case atStart =>
    exact ⟨0, by omega, rfl, Made.start w n m c d A D HZ.out _ _ _⟩
  case round =>
    obtain ⟨k, hk, rfl, hM⟩ := hrel
    have HM := Lib.hid hM
    by_cases hlt : k < n + 1
    · have kb := hM.kb
      have kt := hM.kt
      have hl := hM.left k (Nat.le_refl _) (by omega)
      have hf := hM.fz k
      have hsz : w.heap.size + 1 + 1 < wr.heap.size := by have := hM.size; omega
      have kb2 := (World.cell?_alloc_lt wr (.cells Y 3) ⟨w.heap.size + 1, 0, none⟩ (by simp only []; omega)).trans kb
      have kt2 := (World.cell?_alloc_lt wr (.cells Y 3) ⟨w.heap.size + 1 + 1 + 1, 0, none⟩ (by have := hM.size; simp only []; omega)).trans kt
      have hl2 := (World.cell?_alloc_lt wr (.cells Y 3) ⟨w.heap.size + 1 + 1, k, none⟩ (by simp only []; omega)).trans hl
      have hf2 := (World.frozen?_alloc_old wr (.cells Y 3) ⟨w.heap.size + 1 + 1, k, none⟩ (by simp only []; omega)).trans hf
      clear hM
      go_wp2
      go_region
      go_wp2
      go_roundw
      case rel => exact ⟨k + 1, by omega, by go_num, HM.out.more (by omega) HY.out _⟩
      case measure => simp [intOf]; omega
    · obtain rfl : k = n + 1 := by omega
      have hF := hM.filled
      have HF := Lib.hid hF
      have ka := hM.ka
      clear hM
      rw [show ((n + 1 : Nat) : Int) = (n : Int) + 1 from rfl]
      go_wp2
      go_loopw [8] (fun z wv => ∃ (k : Nat) (x : Int) (V : Nat → Nat → Nat), k ≤ n ∧ x = (k : Int) - 1 ∧ z = .int .i64 x ∧ Filled w wv n m c d A D V ∧ Good La Lb n m k m V) (fun z _ => (intOf z + 1).toNat)
      case atStart => exact ⟨n, _, _, Nat.le_refl _, rfl, rfl, HF.out, Good.start HLa.out HLb.out⟩
      case round =>
        rename World => wo
        obtain ⟨k, x, V, hk, hx, rfl, hFi, hG⟩ := hrel
        have HFi := Lib.hid hFi
        have HG := Lib.hid hG
        have hb' := hFi.kb
        have ha' := hFi.ka
        have ht' := hFi.kt
        clear hFi hG ka HF
        by_cases h0 : 0 < k
        · obtain ⟨i, rfl⟩ : ∃ i : Nat, x = i := ⟨k - 1, by omega⟩
          obtain rfl : k = i + 1 := by omega
          clear hx h0
          go_wp2
          go_loopw [9] (fun z wv => ∃ (l : Nat) (x : Int) (V : Nat → Nat → Nat), l ≤ m ∧ x = (l : Int) - 1 ∧ z = .int .i64 x ∧ Filled w wv n m c d A D V ∧ Good La Lb n m (i + 1) l V) (fun z _ => (intOf z + 1).toNat)
          case atStart => exact ⟨m, _, _, Nat.le_refl _, rfl, rfl, HFi.out, HG.out⟩
          case round =>
            rename World => wi
            obtain ⟨l, x, V, hl, hx, rfl, hFi, hG⟩ := hrel
            have HFi := Lib.hid hFi
            have HG := Lib.hid hG
            clear hFi hG hb' ha' ht'
            by_cases h0 : 0 < l
            · obtain ⟨j, rfl⟩ : ∃ j : Nat, x = j := ⟨l - 1, by omega⟩
              obtain rfl : l = j + 1 := by omega
              clear hx h0
              have HS := Lib.hid (HG.out.store HLa.out HLb.out (by omega) (by omega))
              have HC := Lib.hid (fill_any La Lb w.heap.size n m c d (w.heap.size) (w.heap.size + 1) (w.heap.size + 1 + 1 + 1) (w.heap.size + 1 + 1) (w.heap.size + 4) i j A D V wi (HA.out.below HFi.out.below) (HB.out.below HFi.out.below) HFi.out.tab HFi.out.ka HFi.out.kb HFi.out.kt (by omega) (by omega) hn hm HFi.out.low)
              go_wp2_with (go_at_call 34; ((with_reducible refine (HC.out).mono ?_); rintro e w1 ⟨rfl, hq⟩))
              have HF1 := Lib.hid (HFi.out.store (i := i) (j := j) (by omega) (by omega) (by rw [HS.out.2]; have := T_le La Lb i j; have := HLa.out; omega) hq)
              clear hq
              go_wp2
              go_roundw
              case rel => exact ⟨j, _, _, by omega, rfl, rfl, HF1.out, HS.out.1⟩
              case measure => simp [intOf]
            · obtain rfl : l = 0 := by omega
              obtain rfl : x = -1 := by omega
              have HD := Lib.hid (HG.out.down HLb.out)
              clear hx h0 HG
              go_wp2
              go_roundw
              case rel => exact ⟨i, _, _, by omega, rfl, rfl, HFi.out, HD.out⟩
              case measure => simp [intOf]
        · obtain rfl : k = 0 := by omega
          obtain rfl : x = -1 := by omega
          clear hx h0
          go_wp2
          go_ret
          refine ⟨rfl, ?_, HFi.out.below⟩
          have h := HFi.out.tab
          exact ⟨h.lt, h.size, h.outer, fun i j hi hj => by rw [h.inner i j hi hj, HG.out.1 i j (by omega) hi hj], h.free⟩
end Go.Proofs.Ytklegjmlpaimpaa
