/-
  The contract of Same.
-/
import Derived.Test.YtplphinaeikpmaaGreatDoorOps
namespace Go.Proofs.YtplphinaeikpmaaGreatDoor
open Go.RowKit (wrap32 wrap64 intOf Hid Below)
open Spans

theorem drew_more {w wr : World} (h : ∃ q, wr = w.drewN q) (m : Nat) : ∃ q, wr.drewN m = w.drewN q := by
  obtain ⟨q, rfl⟩ := h
  exact ⟨q + m, World.drewN_drewN _ _ _⟩
theorem list_ext {a b : List Sp} (hl : a.length = b.length) (h : ∀ k, k < a.length → fr a k = fr b k ∧ tu a k = tu b k) : a = b := by
  refine List.ext_getElem hl fun k h1 h2 => ?_
  have := h k h1
  unfold fr tu at this
  rw [List.getD, List.getD, List.getElem?_eq_getElem h1, List.getElem?_eq_getElem h2] at this
  exact Prod.ext this.1 this.2

theorem guard42 : Tryz.prog.eqGuardType Tryz.prog.depth 35 = false := by kernel_rfl
theorem neq42 (a b c d : Int) (w : World) : (binOp .neq 35 (.agg #[.int .i64 a, .int .i64 b]) (.agg #[.int .i64 c, .int .i64 d])).run Tryz.prog w = .ok (.bool (!(a == c && b == d))) w := by
  have u3 := Tryz.underlying3
  have a3 := Tryz.isAgg3
  have z3 := Tryz.sizeOf3
  have hS : Tryz.prog.underlying 35 = some (.struct (Tryz.prog.fieldsOf 35)) := by kernel_rfl
  have hp : Tryz.prog.stoodInHeld 35 = false := by kernel_rfl
  rw [run_neq_struct, show (10000 : Nat) = 9999 + 1 from rfl, run_equalIn_agg w 9999 35 _ _ hS hp]
  simp only [Program.fieldsOf, Tryz.underlying35]
  go_simp
  by_cases h1 : a = c <;> by_cases h2 : b = d <;> simp [h1, h2]

set_option maxHeartbeats 1000000 in
theorem same_any (La Lb : List Sp) (B N M ca cb : Nat) (Aa Ab : Option Addr) (w : World) (hza : SpansAt B w Aa N La) (hzb : SpansAt B w Ab M Lb) (hN : N ≤ 2000000) (hM : M ≤ 2000000) :
    Calls Tryz.prog 9 #[.slice Aa N ca, .slice Ab M cb] w fun e w' => e = .returned (.bool (decide (La = Lb))) ∧ ∃ q, w' = w.drewN q := by
  have HLA := Lib.hid hza.1
  have HLB := Lib.hid hzb.1
  by_cases hNM : N = M
  · subst hNM
    go_enter Tryz.func9, Tryz.ntmps9
    go_wp2
    go_loopw [5] (fun i wr => ∃ k : Nat, k ≤ N ∧ i = .int .i64 k ∧ (∃ q, wr = w.drewN q) ∧ ∀ j, j < k → fr La j = fr Lb j ∧ tu La j = tu Lb j) (fun i _ => N - (intOf i).toNat)
    case atStart => exact ⟨0, Nat.zero_le _, rfl, ⟨0, rfl⟩, fun j hj => absurd hj (by omega)⟩
    case round =>
      obtain ⟨k, hk, rfl, hq, hg⟩ := hrel
      have HG := Lib.hid hg
      have HQ := Lib.hid hq
      by_cases hlt : k < N
      · obtain ⟨b, off, rfl, hB, h1, h2⟩ := SpansAt.cells (wr := wr) hza (by obtain ⟨q, rfl⟩ := hq; exact below_drawn (Below.refl _ _) q) hlt
        obtain ⟨b', off', rfl, hB', h1', h2'⟩ := SpansAt.cells (wr := wr) hzb (by obtain ⟨q, rfl⟩ := hq; exact below_drawn (Below.refl _ _) q) hlt
        have gd := guard42
        have hn1 := neq42 (fr La k) (tu La k) (fr Lb k) (tu Lb k)
        clear hza hzb hq hg
        by_cases he : fr La k = fr Lb k ∧ tu La k = tu Lb k
        · have hb : (fr La k == fr Lb k && tu La k == tu Lb k) = true := by simp [he.1, he.2]
          simp only [hb, Bool.not_true] at hn1
          have HE := Lib.hid he
          clear he hb
          go_wp2
          go_quiet (fail)
          go_wp2
          go_roundw
          case rel => exact ⟨k + 1, by omega, by go_num, drew_more HQ.out _, fun j hj => by
            by_cases h : j = k
            · subst h; exact HE.out
            · exact HG.out j (by omega)⟩
          case measure => simp [intOf]; omega
        · have hb : (fr La k == fr Lb k && tu La k == tu Lb k) = false := by
            rw [Bool.eq_false_iff]
            intro h
            simp at h
            exact he h
          simp only [hb, Bool.not_false] at hn1
          have HE := Lib.hid he
          clear he hb
          go_wp2
          go_quiet (fail)
          go_wp2
          go_ret
          exact ⟨ret_bool (by
            symm
            rw [decide_eq_false_iff_not]
            intro h
            exact HE.out (by rw [h]; exact ⟨rfl, rfl⟩)), drew_more HQ.out _⟩
      · obtain rfl : k = N := by omega
        have HE : Hid (La = Lb) := Lib.hid (list_ext (by have := HLA.out; have := HLB.out; omega) (fun j hj => HG.out j (by have := HLA.out; omega)))
        clear hza hzb hq hg
        go_wp2
        go_ret
        exact ⟨ret_bool (by symm; rw [decide_eq_true_iff]; exact HE.out), HQ.out⟩
  · have hne : ((N : Int) == M) = false := by rw [beq_eq_false_iff_ne]; omega
    have hne2 : ¬ ((N : Int) = M) := by omega
    clear hza hzb hNM
    go_enter Tryz.func9, Tryz.ntmps9
    go_wp2
    go_ret
    exact ⟨ret_bool (by
      symm
      rw [decide_eq_false_iff_not]
      intro h
      have := HLA.out
      have := HLB.out
      have := congrArg List.length h
      omega), 0, rfl⟩
end Go.Proofs.YtplphinaeikpmaaGreatDoor
