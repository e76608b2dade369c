/-
  Slices of strings and of integers in memory, and Same.
-/
import Derived.Handy
import Derived.WalkMore
import Derived.Lib.Hide
import Derived.WalkLawsBesides
import Derived.WalkSpells
import Derived.Deep.QuietTactic
import Derived.BigQuiet
import Derived.Deep.Draws
import Derived.StillTailTactics
import Derived.Maps.AppendAt
import Derived.Deep.AppendLies
import Derived.RegionTactic
import Derived.OwnWalk
import Derived.Test.YtphehcbjegfifaaDoorProg
import Derived.Test.YtphehcbjegfifaaDoorOcc
namespace Go.Proofs.YtphehcbjegfifaaDoor
open Go.RowKit (wrap32 wrap64 intOf Hid Below)
open Occ

theorem ret_bool {a b : Bool} (h : a = b) : Ending.returned (.bool a) = .returned (.bool b) := by rw [h]
theorem ret_int {k : IntKind} {a b : Int} (h : a = b) : Ending.returned (.int k a) = .returned (.int k b) := by rw [h]
theorem below_drawn {B : Nat} {a w : World} (h : Below B a w) (n : Nat) : Below B a (w.drewN n) := ⟨h.os, h.tape, h.output, h.size, h.block⟩
theorem below_drawn' {B : Nat} {a w w' : World} (h : Below B a w) (hq : ∃ q, w' = w.drewN q) : Below B a w' := by
  obtain ⟨q, rfl⟩ := hq
  exact below_drawn h q
theorem drew_more {w wr : World} (h : ∃ q, wr = w.drewN q) (m : Nat) : ∃ q, wr.drewN m = w.drewN q := by
  obtain ⟨q, rfl⟩ := h
  exact ⟨q + m, World.drewN_drewN _ _ _⟩
theorem drew_below {w wr : World} (h : ∃ q, wr = w.drewN q) : Below w.heap.size w wr := by
  obtain ⟨q, rfl⟩ := h
  exact below_drawn (Below.refl _ _) q

/-- The values of a list of strings, and of numbers. -/
def sv (L : List Str) : List Value := L.map Value.string
def iv (L : List Nat) : List Value := L.map fun (n : Nat) => Value.int .i64 (n : Int)
/-- A slice value that reads as a list of values of one cell each, below block B; where it has no element nothing is asked of its address. -/
def ValsAt (B : Nat) (w : World) (A : Option Addr) (n : Nat) (L : List Value) : Prop :=
  L.length = n ∧ (0 < n → ∃ b off, A = some ⟨b, off, none⟩ ∧ b < B ∧ ∀ k u, L[k]? = some u → w.cell? ⟨b, off + k, none⟩ = some u)
theorem ValsAt.below {B : Nat} {w w' : World} {A : Option Addr} {n : Nat} {L : List Value} (h : ValsAt B w A n L) (hb : Below B w w') : ValsAt B w' A n L :=
  ⟨h.1, fun hn => by
    obtain ⟨b, off, e, hlt, hc⟩ := h.2 hn
    exact ⟨b, off, e, hlt, fun k u hk => (hb.cell (p := ⟨b, off + k, none⟩) hlt).trans (hc k u hk)⟩⟩
theorem ValsAt.mono {B B' : Nat} {w : World} {A : Option Addr} {n : Nat} {L : List Value} (h : ValsAt B w A n L) (hB : B ≤ B') : ValsAt B' w A n L :=
  ⟨h.1, fun hn => by
    obtain ⟨b, off, e, hlt, hc⟩ := h.2 hn
    exact ⟨b, off, e, by omega, hc⟩⟩
theorem ValsAt.nil (B : Nat) (w : World) (A : Option Addr) : ValsAt B w A 0 [] := ⟨rfl, fun h => absurd h (by omega)⟩
/-- A part of it. -/
theorem ValsAt.cut {B : Nat} {w : World} {b off n : Nat} {L : List Value} (h : ValsAt B w (some ⟨b, off, none⟩) n L) (i m : Nat) (hm : i + m ≤ n) : ValsAt B w (some ⟨b, off + i, none⟩) m ((L.drop i).take m) := by
  refine ⟨by rw [List.length_take, List.length_drop, h.1]; omega, fun hn => ?_⟩
  obtain ⟨b', off', e, hlt, hc⟩ := h.2 (by omega)
  obtain ⟨rfl, rfl⟩ : b = b' ∧ off = off' := by simpa using e
  refine ⟨b, off + i, rfl, hlt, fun k u hk => ?_⟩
  have hk' : L[i + k]? = some u := by
    rw [List.getElem?_take] at hk
    split at hk
    · rw [List.getElem?_drop] at hk; exact hk
    · cases hk
  rw [show off + i + k = off + (i + k) by omega]
  exact hc _ u hk'
theorem ValsAt.addr {B : Nat} {w : World} {A : Option Addr} {n : Nat} {L : List Value} (h : ValsAt B w A n L) (hn : 0 < n) : ∃ b off, A = some ⟨b, off, none⟩ ∧ b < B := by
  obtain ⟨b, off, e, hlt, _⟩ := h.2 hn
  exact ⟨b, off, e, hlt⟩

/-- The k-th string, and the k-th number. -/
def st (L : List Str) (k : Nat) : Str := L.getD k ByteArray.empty
def nt (L : List Nat) (k : Nat) : Nat := L.getD k 0
theorem sv_at {L : List Str} {k : Nat} (hk : k < L.length) : (sv L)[k]? = some (.string (st L k)) := by
  unfold sv st
  rw [List.getElem?_map, List.getD, List.getElem?_eq_getElem hk]
  rfl
theorem iv_at {L : List Nat} {k : Nat} (hk : k < L.length) : (iv L)[k]? = some (.int .i64 (nt L k : Int)) := by
  unfold iv nt
  rw [List.getElem?_map, List.getD, List.getElem?_eq_getElem hk]
  rfl
theorem st_eq {L : List Str} {k : Nat} (hk : k < L.length) : st L k = L[k] := by
  unfold st
  rw [List.getD, List.getElem?_eq_getElem hk]
  rfl
theorem nt_eq {L : List Nat} {k : Nat} (hk : k < L.length) : nt L k = L[k] := by
  unfold nt
  rw [List.getD, List.getElem?_eq_getElem hk]
  rfl
theorem sv_len (L : List Str) : (sv L).length = L.length := by simp [sv]
theorem iv_len (L : List Nat) : (iv L).length = L.length := by simp [iv]
theorem sv_cut (L : List Str) (i m : Nat) : ((sv L).drop i).take m = sv ((L.drop i).take m) := by simp [sv, List.map_take, List.map_drop]
theorem sv_app (a b : List Str) : sv (a ++ b) = sv a ++ sv b := by simp [sv]
theorem iv_app (a b : List Nat) : iv (a ++ b) = iv a ++ iv b := by simp [iv]
theorem sv_one (L : List Str) : ∀ u ∈ sv L, u.oneCell' = true := by
  intro u hu
  obtain ⟨s, _, rfl⟩ := List.mem_map.1 hu
  rfl
theorem iv_one (L : List Nat) : ∀ u ∈ iv L, u.oneCell' = true := by
  intro u hu
  obtain ⟨s, _, rfl⟩ := List.mem_map.1 hu
  rfl
theorem ValsAt.str {B : Nat} {w wr : World} {A : Option Addr} {n : Nat} {L : List Str} (h : ValsAt B w A n (sv L)) (hb : Below B w wr) {k : Nat} (hk : k < n) :
    ∃ b off, A = some ⟨b, off, none⟩ ∧ b < B ∧ wr.cell? ⟨b, off + k, none⟩ = some (.string (st L k)) := by
  obtain ⟨b, off, e, hlt, hc⟩ := (h.below hb).2 (by omega)
  exact ⟨b, off, e, hlt, hc k _ (sv_at (by have := h.1; rw [sv_len] at this; omega))⟩
theorem ValsAt.num {B : Nat} {w wr : World} {A : Option Addr} {n : Nat} {L : List Nat} (h : ValsAt B w A n (iv L)) (hb : Below B w wr) {k : Nat} (hk : k < n) :
    ∃ b off, A = some ⟨b, off, none⟩ ∧ b < B ∧ wr.cell? ⟨b, off + k, none⟩ = some (.int .i64 (nt L k : Int)) := by
  obtain ⟨b, off, e, hlt, hc⟩ := (h.below hb).2 (by omega)
  exact ⟨b, off, e, hlt, hc k _ (iv_at (by have := h.1; rw [iv_len] at this; omega))⟩
theorem ValsAt.of_own {w : World} {base : Nat} {e : TypeId} {A : Option Addr} {c n : Nat} {L : List Value} (h : w.ownsRow base e 1 (.slice A n c) n L) : ValsAt w.heap.size w A n L := by
  refine ⟨by have := h.1; omega, fun hn => ?_⟩
  obtain ⟨g, cap, hv, _, hlt⟩ := h.form hn
  have hA : A = some ⟨g, 0, none⟩ := by injection hv
  subst hA
  refine ⟨g, 0, rfl, hlt, fun k u hk => ?_⟩
  have h1 := h.cellAt (g := g) k (by have := (List.getElem?_eq_some_iff.1 hk).1; have := h.1; omega)
  rw [Nat.zero_add]
  exact h1.trans hk
theorem list_ext {a b : List Str} (hl : a.length = b.length) (h : ∀ k, k < a.length → st a k = st b k) : a = b := by
  refine List.ext_getElem hl fun k h1 h2 => ?_
  have := h k h1
  rwa [st_eq h1, st_eq h2] at this
theorem str_eq (a b : ByteArray) : (a.toList == b.toList) = decide (a = b) := by
  rw [Bool.eq_iff_iff, beq_iff_eq, decide_eq_true_eq]
  constructor
  · intro h
    rw [ByteArray.toList_eq, ByteArray.toList_eq] at h
    cases a; cases b
    simpa using h
  · rintro rfl; rfl

set_option maxHeartbeats 1000000 in
theorem same_any (La Lb : List Str) (B N M ca cb : Nat) (Aa Ab : Option Addr) (w : World) (hza : ValsAt B w Aa N (sv La)) (hzb : ValsAt B w Ab M (sv Lb)) (hN : N ≤ 9223372036854775807) (hM : M ≤ 9223372036854775807) (hB : B ≤ w.heap.size) :
    Calls Tryd.prog 8 #[.slice Aa N ca, .slice Ab M cb] w fun e w' => e = .returned (.bool (decide (La = Lb))) ∧ ∃ q, w' = w.drewN q := by
  have HLA := Lib.hid hza.1
  have HLB := Lib.hid hzb.1
  rw [sv_len] at HLA HLB
  by_cases hNM : N = M
  · subst hNM
    go_enter Tryd.func8, Tryd.ntmps8
    go_wp2
    go_loopw [5] (fun i wr => ∃ k : Nat, k ≤ N ∧ i = .int .i64 k ∧ (∃ q, wr = w.drewN q) ∧ ∀ j, j < k → st La j = st Lb j) (fun i _ => N - (intOf i).toNat)
    case atStart => exact ⟨0, Nat.zero_le _, rfl, ⟨0, rfl⟩, fun j hj => absurd hj (by omega)⟩
    case round =>
      obtain ⟨k, hk, rfl, hq, hg⟩ := hrel
      have HG := Lib.hid hg
      have HQ := Lib.hid hq
      by_cases hlt : k < N
      · have hbb : Below B w wr := (drew_below hq).mono hB
        obtain ⟨b, off, rfl, hB, h1⟩ := hza.str hbb hlt
        obtain ⟨b', off', rfl, hB', h1'⟩ := hzb.str hbb hlt
        have hs := str_eq (st La k) (st Lb k)
        clear hza hzb hq hg hbb
        by_cases he : st La k = st Lb k
        · rw [decide_eq_true he] at hs
          have HE := Lib.hid he
          clear he
          go_wp2
          go_quiet (fail)
          go_wp2
          go_roundw
          case rel => exact ⟨k + 1, by omega, by go_num, drew_more HQ.out _, fun j hj => by
            by_cases h : j = k
            · subst h; exact HE.out
            · exact HG.out j (by omega)⟩
          case measure => simp [intOf]; omega
        · rw [decide_eq_false he] at hs
          have HE := Lib.hid he
          clear he
          go_wp2
          go_quiet (fail)
          go_wp2
          go_ret
          exact ⟨ret_bool (by
            symm
            rw [decide_eq_false_iff_not]
            intro h
            exact HE.out (by rw [h])), drew_more HQ.out _⟩
      · obtain rfl : k = N := by omega
        have HE : Hid (La = Lb) := Lib.hid (list_ext (by have := HLA.out; have := HLB.out; omega) (fun j hj => HG.out j (by have := HLA.out; omega)))
        clear hza hzb hq hg
        go_wp2
        go_ret
        exact ⟨ret_bool (by symm; rw [decide_eq_true_iff]; exact HE.out), HQ.out⟩
  · have hne : ((N : Int) == M) = false := by rw [beq_eq_false_iff_ne]; omega
    have hne2 : ¬ ((N : Int) = M) := by omega
    clear hza hzb hNM
    go_enter Tryd.func8, Tryd.ntmps8
    go_wp2
    go_ret
    exact ⟨ret_bool (by
      symm
      rw [decide_eq_false_iff_not]
      intro h
      have := HLA.out
      have := HLB.out
      have := congrArg List.length h
      omega), 0, rfl⟩

set_option maxHeartbeats 1000000 in
/-- slices.Equal over strings. -/
theorem equal_any (La Lb : List Str) (B N M ca cb : Nat) (Aa Ab : Option Addr) (w : World) (hza : ValsAt B w Aa N (sv La)) (hzb : ValsAt B w Ab M (sv Lb)) (hN : N ≤ 9223372036854775807) (hM : M ≤ 9223372036854775807) (hB : B ≤ w.heap.size) :
    Calls Tryd.prog 22 #[.slice Aa N ca, .slice Ab M cb] w fun e w' => e = .returned (.bool (decide (La = Lb))) ∧ ∃ q, w' = w.drewN q := by
  have HLA := Lib.hid hza.1
  have HLB := Lib.hid hzb.1
  rw [sv_len] at HLA HLB
  by_cases hNM : N = M
  · subst hNM
    go_enter Tryd.func22, Tryd.ntmps22
    go_wp2
    go_loopw [13] (fun i wr => ∃ k : Nat, k ≤ N ∧ i = .int .i64 k ∧ (∃ q, wr = w.drewN q) ∧ ∀ j, j < k → st La j = st Lb j) (fun i _ => N - (intOf i).toNat)
    case atStart => exact ⟨0, Nat.zero_le _, rfl, ⟨0, rfl⟩, fun j hj => absurd hj (by omega)⟩
    case round =>
      obtain ⟨k, hk, rfl, hq, hg⟩ := hrel
      have HG := Lib.hid hg
      have HQ := Lib.hid hq
      by_cases hlt : k < N
      · have hbb : Below B w wr := (drew_below hq).mono hB
        obtain ⟨b, off, rfl, hB, h1⟩ := hza.str hbb hlt
        obtain ⟨b', off', rfl, hB', h1'⟩ := hzb.str hbb hlt
        have hs := str_eq (st La k) (st Lb k)
        clear hza hzb hq hg hbb
        by_cases he : st La k = st Lb k
        · rw [decide_eq_true he] at hs
          have HE := Lib.hid he
          clear he
          go_wp2
          go_quiet (fail)
          go_wp2
          go_roundw
          case rel => exact ⟨k + 1, by omega, by go_num, drew_more HQ.out _, fun j hj => by
            by_cases h : j = k
            · subst h; exact HE.out
            · exact HG.out j (by omega)⟩
          case measure => simp [intOf]; omega
        · rw [decide_eq_false he] at hs
          have HE := Lib.hid he
          clear he
          go_wp2
          go_quiet (fail)
          go_wp2
          go_ret
          exact ⟨ret_bool (by
            symm
            rw [decide_eq_false_iff_not]
            intro h
            exact HE.out (by rw [h])), drew_more HQ.out _⟩
      · obtain rfl : k = N := by omega
        have HE : Hid (La = Lb) := Lib.hid (list_ext (by have := HLA.out; have := HLB.out; omega) (fun j hj => HG.out j (by have := HLA.out; omega)))
        clear hza hzb hq hg
        go_wp2
        go_ret
        exact ⟨ret_bool (by symm; rw [decide_eq_true_iff]; exact HE.out), HQ.out⟩
  · have hne : ((N : Int) == M) = false := by rw [beq_eq_false_iff_ne]; omega
    have hne2 : ¬ ((N : Int) = M) := by omega
    clear hza hzb hNM
    go_enter Tryd.func22, Tryd.ntmps22
    go_wp2
    go_ret
    exact ⟨ret_bool (by
      symm
      rw [decide_eq_false_iff_not]
      intro h
      have := HLA.out
      have := HLB.out
      have := congrArg List.length h
      omega), 0, rfl⟩
end Go.Proofs.YtphehcbjegfifaaDoor
