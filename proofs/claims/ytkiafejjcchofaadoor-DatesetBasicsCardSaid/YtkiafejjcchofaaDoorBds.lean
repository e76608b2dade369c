/-
  The contract of Boundaries.
-/
import Derived.Test.YtkiafejjcchofaaDoorSize
namespace Go.Proofs.YtkiafejjcchofaaDoor
open Go.RowKit (wrap32 wrap64 intOf Hid Below)
open Spans

/-- The k-th element of a list. -/
def el (zs : List Int) (k : Nat) : Int := zs.getD k 0
/-- A slice value that reads as a list of integers below block B; where it has no element nothing is asked of its address. -/
def IntsAt (B : Nat) (w : World) (A : Option Addr) (n : Nat) (zs : List Int) : Prop :=
  zs.length = n ∧ (0 < n → ∃ b off, A = some ⟨b, off, none⟩ ∧ b < B ∧ ∀ k, k < n → w.cell? ⟨b, off + k, none⟩ = some (.int .i64 (el zs k)))
theorem IntsAt.below {B : Nat} {w w' : World} {A : Option Addr} {n : Nat} {zs : List Int} (h : IntsAt B w A n zs) (hb : Below B w w') : IntsAt B w' A n zs :=
  ⟨h.1, fun hn => by
    obtain ⟨b, off, e, hlt, hc⟩ := h.2 hn
    exact ⟨b, off, e, hlt, fun k hk => (hb.cell (p := ⟨b, off + k, none⟩) hlt).trans (hc k hk)⟩⟩
theorem IntsAt.mono {B B' : Nat} {w : World} {A : Option Addr} {n : Nat} {zs : List Int} (h : IntsAt B w A n zs) (hB : B ≤ B') : IntsAt B' w A n zs :=
  ⟨h.1, fun hn => by
    obtain ⟨b, off, e, hlt, hc⟩ := h.2 hn
    exact ⟨b, off, e, by omega, hc⟩⟩
theorem IntsAt.cells {B : Nat} {w wr : World} {A : Option Addr} {n : Nat} {zs : List Int} (h : IntsAt B w A n zs) (hb : Below B w wr) {k : Nat} (hk : k < n) :
    ∃ b off, A = some ⟨b, off, none⟩ ∧ b < B ∧ ∀ k, k < n → wr.cell? ⟨b, off + k, none⟩ = some (.int .i64 (el zs k)) := by
  obtain ⟨b, off, e, hlt, hc⟩ := h.2 (by omega)
  exact ⟨b, off, e, hlt, fun j hj => (hb.cell (p := ⟨b, off + j, none⟩) hlt).trans (hc j hj)⟩

/-- Integers as cells. -/
def icells (zs : List Int) : List Value := zs.map fun z => .int .i64 z
theorem icells_app (a b : List Int) : icells (a ++ b) = icells a ++ icells b := by simp [icells]
theorem ints_of_own {base n c : Nat} {A : Option Addr} {zs : List Int} {w : World} (hown : w.ownsRow base 3 1 (.slice A n c) n (icells zs)) : IntsAt w.heap.size w A n zs := by
  have hl : zs.length = n := by have := hown.1; simpa [icells] using this
  refine ⟨hl, fun hn => ?_⟩
  rcases hown.2 with ⟨_, h2⟩ | ⟨g, cap, cur, h, _⟩
  · omega
  · injection h with h1 h2
    subst h1
    have hg := hown.lt g rfl
    refine ⟨g, 0, rfl, hg.2, fun k hk => ?_⟩
    rw [Nat.zero_add, hown.cellAt k (by omega)]
    unfold icells el
    simp [List.getD, List.getElem?_eq_getElem (show k < zs.length by omega)]

/-- The ends of a span that are valid days. -/
def endOf (s : Sp) : List Int := s.1 :: (if s.2 ≤ 1048576 then [s.2] else [])
def endsS (L : List Sp) : List Int := L.flatMap endOf
theorem endsS_step (L : List Sp) (k : Nat) (hk : k < L.length) : endsS (L.take (k + 1)) = endsS (L.take k) ++ endOf (fr L k, to L k) := by
  rw [take_step L k hk]
  simp [endsS]
theorem endsS_len : ∀ (L : List Sp), (endsS L).length ≤ 2 * L.length
  | [] => by simp [endsS]
  | s :: r => by
    have := endsS_len r
    have h2 : (endOf s).length ≤ 2 := by unfold endOf; split <;> simp
    have e : endsS (s :: r) = endOf s ++ endsS r := by simp [endsS]
    rw [e, List.length_append, List.length_cons]
    omega
theorem info3 : (Tryd.prog.info? 3).map (fun i => (i.zero, i.size, i.bytes)) = some (some (.int .i64 0), 1, 8) := by kernel_rfl
theorem new_one (w : World) (o1 : Obj) (f : Int) (ty : TypeId) (j : Nat) (u : Value) (h : [Value.int .i64 f][j]? = some u) :
    ((w.alloc o1).alloc (.cells #[.int .i64 f] ty)).cell? ((⟨w.heap.size + 1, 0, none⟩ : Addr).add j) = some u := by
  match j, h with
  | 0, h =>
    rw [show ((⟨w.heap.size + 1, 0, none⟩ : Addr).add 0) = ⟨w.heap.size + 1, 0, none⟩ from rfl, World.cell?_alloc_at _ _ _ _ (by simp)]
    exact h
theorem new_one' (w : World) (f : Int) (ty : TypeId) (j : Nat) (u : Value) (h : [Value.int .i64 f][j]? = some u) :
    (w.alloc (.cells #[.int .i64 f] ty)).cell? ((⟨w.heap.size, 0, none⟩ : Addr).add j) = some u := by
  match j, h with
  | 0, h =>
    rw [show ((⟨w.heap.size, 0, none⟩ : Addr).add 0) = ⟨w.heap.size, 0, none⟩ from rfl, World.cell?_alloc_at _ _ _ _ rfl]
    exact h

/-- A slice that reads as these integers is handed back. -/
def IntsRet (zs : List Int) (e : Ending) (w' : World) : Prop := ∃ (A : Option Addr) (n c : Nat), e = .returned (.slice A n c) ∧ IntsAt w'.heap.size w' A n zs ∧ n ≤ 4000000
theorem own_slice {w : World} {base e size n : Nat} {v : Value} {xs : List Value} (h : w.ownsRow base e size v (n + 1) xs) : ∃ A2 c2, v = .slice A2 (n + 1) c2 := by
  rcases h.2 with ⟨_, h⟩ | ⟨g, cap, cur, rfl, _⟩
  · omega
  · exact ⟨_, _, rfl⟩

set_option maxHeartbeats 2000000 in
set_option maxRecDepth 1000000 in
theorem bounds_c (La : List Sp) (N ca : Nat) (Aa : Option Addr) (w : World) (hza : SpansAt w.heap.size w Aa N La) (hN : N ≤ 2000000) :
    Calls Tryd.prog 21 #[.slice Aa N ca] w fun e w' => IntsRet (endsS (canon (memB La))) e w' ∧ Below w.heap.size w w' := by
  obtain ⟨i0, hi, hz0, hz1, hz2⟩ := info_parts info3
  have HA := Lib.hid (norm_c La N ca Aa w hza hN)
  clear hza
  obtain ⟨R, hR⟩ : ∃ R, R = canon (memB La) := ⟨_, rfl⟩
  rw [← hR]
  have HRd := Lib.hid hR
  clear hR
  go_enter Tryd.func21, Tryd.ntmps21
  go_wp2_with (go_at_call 14; ((with_reducible refine (HA.out).mono ?_); rintro e w1 ⟨⟨A1, n1, c1, rfl, z1, i1, l1⟩, hb1⟩))
  rw [← HRd.out] at z1 i1
  have HL := Lib.hid z1.1
  go_loopw [3, 9] (fun v i wr => ∃ (k m cc : Nat) (Av : Option Addr), k ≤ n1 ∧ i = .int .i64 k ∧ v = .slice Av m cc ∧ m = (endsS (R.take k)).length ∧ wr.ownsRow w1.heap.size 3 1 (.slice Av m cc) m (icells (endsS (R.take k))) ∧ Below w1.heap.size w1 wr) (fun _ i _ => n1 - (intOf i).toNat)
  case atStart => exact ⟨0, 0, 0, none, Nat.zero_le _, rfl, rfl, rfl, World.ownsRow_nil _ _ _ _, Below.refl _ _⟩
  case round =>
    obtain ⟨k, m, cc, Av, hk, rfl, rfl, hm, hown, hb⟩ := hrel
    have hbz := hb.size
    have HM := Lib.hid hm
    have hm1 : m ≤ 4000000 := by
      have h1 := endsS_len (R.take k)
      rw [List.length_take] at h1
      have := HL.out
      omega
    clear hm
    by_cases hlt : k < n1
    · obtain ⟨b, off, rfl, hB, h1, h2⟩ := z1.cells hb hlt
      have hm2 : m + 2 ≤ 4000002 := by omega
      have hstep := endsS_step R k (by have := HL.out; omega)
      have HO : Hid (∀ W, Below wr.heap.size wr W → W.ownsRow w1.heap.size 3 1 (.slice Av m cc) m (icells (endsS (R.take k)))) := Lib.hid fun W h => own_below hown h
      have HLO := Lib.hid hown.lt
      clear hown z1 i1
      have hx : to R k ≤ 1048576 ∨ 1048576 < to R k := by omega
      rcases hx with hx | hx
      · have he : endsS (R.take (k + 1)) = endsS (R.take k) ++ [fr R k] ++ [to R k] := by
          rw [hstep, endOf, if_pos hx]; simp
        have HE := Lib.hid he
        clear he hstep
        go_wp2_with (at_builtin; refine wpList_append_own _ rfl _ _ 33 rfl w1.heap.size 3 i0 (.int .i64 0) 1 8 Tryd.underlying33 hi hz0 hz1 hz2 rfl (by decide) _ _ _ rfl (HO.out _ (bl_two wr _ _)) ⟨wr.heap.size + 1, 0, none⟩ 1 1 [.int .i64 (fr R k)] rfl rfl ?c1 ?c2 ?c3 ?c4 ?c5 ?_)
        case c1 => exact fun j u hj => new_one wr _ _ _ j u hj
        case c2 => intro u hu; simp at hu; subst hu; rfl
        case c3 => unfold maxLen; omega
        case c4 => omega
        case c5 => simp; omega
        intro v' w2 hown' hgrow _
        have hbw : Below w1.heap.size w1 w2 := Below.grown (hb.trans ((bl_two wr _ _).mono hbz)) hgrow (by simp; omega) (fun k hk => (HLO.out k hk).1)
        have hloc : w2.cell? ⟨wr.heap.size, 1, none⟩ = some (.int .i64 (to R k)) := by
          rw [World.cell?_of_block (hgrow.block wr.heap.size (by simp; omega) (fun e => by have := (HLO.out _ e.symm).2; omega))]
          rw [World.cell?_alloc_past _ _ _ (by simp), World.cell?_alloc_at _ _ _ _ rfl]
          rfl
        obtain ⟨A2, c2, rfl⟩ := own_slice hown'
        have HO2 : Hid (∀ W, Below w2.heap.size w2 W → W.ownsRow w1.heap.size 3 1 (.slice A2 (m + 1) c2) (m + 1) (icells (endsS (R.take k)) ++ [.int .i64 (fr R k)])) := Lib.hid fun W h => own_below hown' h
        have HLO2 := Lib.hid hown'.lt
        have hbwz := hbw.size
        have hb4 : ∀ o, Below w2.heap.size w2 (w2.alloc o) := fun o => (Below.refl _ _).alloc (Nat.le_refl _) o
        clear hgrow hown'
        go_wp2_with (at_builtin; refine wpList_append_own _ rfl _ _ 33 rfl w1.heap.size 3 i0 (.int .i64 0) 1 8 Tryd.underlying33 hi hz0 hz1 hz2 rfl (by decide) _ _ _ rfl (HO2.out _ (hb4 _)) ⟨w2.heap.size, 0, none⟩ 1 1 [.int .i64 (to R k)] rfl rfl ?c1 ?c2 ?c3 ?c4 ?c5 ?_)
        case c1 => exact fun j u hj => new_one' w2 _ _ j u hj
        case c2 => intro u hu; simp at hu; subst hu; rfl
        case c3 => unfold maxLen; omega
        case c4 => omega
        case c5 => simp; omega
        intro v' w3 hown' hgrow _
        have hbw3 : Below w1.heap.size w1 w3 := Below.grown (hbw.trans ((hb4 _).mono hbwz)) hgrow (by simp; omega) (fun k hk => (HLO2.out k hk).1)
        obtain ⟨A3, c3, rfl⟩ := own_slice hown'
        have HV := Lib.hid hown'
        clear hgrow hown' hb4
        go_wp2
        go_roundw
        case rel => exact ⟨k + 1, m + 2, c3, A3, by omega, by go_num, rfl, by rw [HE.out, List.length_append, List.length_append, ← HM.out]; rfl, by rw [HE.out, icells_app, icells_app, List.append_assoc]; exact HV.out, hbw3⟩
        case measure => simp [intOf]; omega
      · have he : endsS (R.take (k + 1)) = endsS (R.take k) ++ [fr R k] := by
          rw [hstep, endOf, if_neg (by simp only; omega)]
        have HE := Lib.hid he
        clear he hstep
        go_wp2_with (at_builtin; refine wpList_append_own _ rfl _ _ 33 rfl w1.heap.size 3 i0 (.int .i64 0) 1 8 Tryd.underlying33 hi hz0 hz1 hz2 rfl (by decide) _ _ _ rfl (HO.out _ (bl_two wr _ _)) ⟨wr.heap.size + 1, 0, none⟩ 1 1 [.int .i64 (fr R k)] rfl rfl ?c1 ?c2 ?c3 ?c4 ?c5 ?_)
        case c1 => exact fun j u hj => new_one wr _ _ _ j u hj
        case c2 => intro u hu; simp at hu; subst hu; rfl
        case c3 => unfold maxLen; omega
        case c4 => omega
        case c5 => simp; omega
        intro v' w2 hown' hgrow _
        have hbw : Below w1.heap.size w1 w2 := Below.grown (hb.trans ((bl_two wr _ _).mono hbz)) hgrow (by simp; omega) (fun k hk => (HLO.out k hk).1)
        have hloc : w2.cell? ⟨wr.heap.size, 1, none⟩ = some (.int .i64 (to R k)) := by
          rw [World.cell?_of_block (hgrow.block wr.heap.size (by simp; omega) (fun e => by have := (HLO.out _ e.symm).2; omega))]
          rw [World.cell?_alloc_past _ _ _ (by simp), World.cell?_alloc_at _ _ _ _ rfl]
          rfl
        obtain ⟨A2, c2, rfl⟩ := own_slice hown'
        have HV := Lib.hid hown'
        clear hgrow hown'
        go_wp2
        go_roundw
        case rel => exact ⟨k + 1, m + 1, c2, A2, by omega, by go_num, rfl, by rw [HE.out, List.length_append, ← HM.out]; rfl, by rw [HE.out, icells_app]; exact HV.out, hbw⟩
        case measure => simp [intOf]; omega
    · obtain rfl : k = n1 := by omega
      have e : R.take k = R := List.take_of_length_le (by have := HL.out; omega)
      rw [e] at hown
      have HI := Lib.hid (ints_of_own hown)
      clear hown z1 i1
      go_wp2
      go_ret
      exact ⟨⟨Av, m, cc, rfl, HI.out, hm1⟩, hb1.trans (hb.mono hb1.size)⟩
end Go.Proofs.YtkiafejjcchofaaDoor
