/-
  The contract of the reference's Points.
-/
import Derived.Test.YtplphinaeikpmaaGreatDoorRefB
namespace Go.Proofs.YtplphinaeikpmaaGreatDoor
open Go.RowKit (wrap32 wrap64 intOf Hid Below)
open Spans

theorem step_in (zs : List Int) (e : Int) (h0 : 0 < e) (h1 : e ≤ 1048576) : stepP zs e = putP zs e := by unfold stepP; rw [if_pos ⟨h0, h1⟩]
theorem step_low (zs : List Int) (e : Int) (h0 : ¬ 0 < e) : stepP zs e = zs := by unfold stepP; rw [if_neg (fun h => h0 h.1)]
theorem step_high (zs : List Int) (e : Int) (h1 : ¬ e ≤ 1048576) : stepP zs e = zs := by unfold stepP; rw [if_neg (fun h => h1 h.2)]

set_option maxHeartbeats 4000000 in
set_option maxRecDepth 100000 in
theorem points_any (La : List Sp) (N ca : Nat) (Aa : Option Addr) (w : World) (hza : SpansAt w.heap.size w Aa N La) (hN : N ≤ 100000) :
    Calls Tryz.prog 42 #[.slice Aa N ca] w fun e w' => PutRet (pts La) e w' ∧ Below w.heap.size w w' := by
  have HL := Lib.hid hza.1
  go_enter Tryz.func42, Tryz.ntmps42
  go_wp2
  go_loopw [3, 4] (fun v i wr => ∃ (k m cc b off : Nat), k ≤ N ∧ i = .int .i64 k ∧ v = .slice (some ⟨b, off, none⟩) m cc ∧ IntsAt wr.heap.size wr (some ⟨b, off, none⟩) m (pts (La.take k)) ∧ m ≤ cc ∧ 0 < m ∧ Below w.heap.size w wr) (fun _ i _ => N - (intOf i).toNat)
  case atStart => exact ⟨0, 1, 1, w.heap.size, 0, Nat.zero_le _, rfl, rfl, ⟨rfl, fun _ => ⟨w.heap.size, 0, rfl, by simp, fun k hk => by
    obtain rfl : k = 0 := by omega
    rw [World.cell?_alloc_at _ _ _ _ rfl]
    rfl⟩⟩, Nat.le_refl _, by omega, (Below.refl _ _).alloc (Nat.le_refl _) _⟩
  case round =>
    obtain ⟨k, m, cc, b, off, hk, rfl, rfl, hi, hmc, hm0, hb⟩ := hrel
    have hbz := hb.size
    have HI := Lib.hid hi
    clear hi
    by_cases hlt : k < N
    · obtain ⟨bs, offs, rfl, hB, h1, h2⟩ := hza.cells hb hlt
      have HE := Lib.hid (pts_step La k (by have := HL.out; omega))
      have hlen : m ≤ 200001 := by
        have h3 := pts_len (La.take k)
        rw [List.length_take] at h3
        have := HI.out.1
        omega
      have HC2 : Hid (∀ W, Below wr.heap.size wr W → W.cell? ⟨bs, offs + k * 2 + 1, none⟩ = some (.int .i64 (tu La k))) := Lib.hid fun W h => (h.cell (p := ⟨bs, offs + k * 2 + 1, none⟩) (Nat.lt_of_lt_of_le hB hbz)).trans h2
      have HP1 : Hid (Calls Tryz.prog 59 #[.slice (some ⟨b, off, none⟩) m cc, .int .i64 (fr La k)] wr fun e w' => PutRet (putP (pts (La.take k)) (fr La k)) e w' ∧ Below wr.heap.size wr w') := Lib.hid (put_any _ m cc b off _ wr HI.out hm0 (by omega) hmc)
      have HP2 : Hid (Calls Tryz.prog 59 #[.slice (some ⟨b, off, none⟩) m cc, .int .i64 (tu La k)] wr fun e w' => PutRet (putP (pts (La.take k)) (tu La k)) e w' ∧ Below wr.heap.size wr w') := Lib.hid (put_any _ m cc b off _ wr HI.out hm0 (by omega) hmc)
      clear hza
      have ca1 : (0 < fr La k ∧ fr La k ≤ 1048576) ∨ (¬ 0 < fr La k) ∨ (0 < fr La k ∧ ¬ fr La k ≤ 1048576) := by omega
      have ca2 : (0 < tu La k ∧ tu La k ≤ 1048576) ∨ (¬ 0 < tu La k) ∨ (0 < tu La k ∧ ¬ tu La k ≤ 1048576) := by omega
      rcases ca1 with ⟨a0, a1⟩ | a0 | ⟨a0, a1⟩
      · rcases ca2 with ⟨b0, b1'⟩ | b0 | ⟨b0, b1'⟩
        · have HE2 := Lib.hid (HE.out.trans (by rw [step_in _ _ a0 a1, step_in _ _ b0 b1']))
          go_wp2_with (first
            | (go_at_call 59; ((with_reducible refine (HP1.out).mono ?_); rintro e w1 ⟨⟨b1, off1, m1, c1, rfl, hi1, hmc1, hm1⟩, hb1⟩; have hc2 := HC2.out _ hb1; have hl1 := (len_putP (pts (La.take k)) (fr La k)).2.1; have hq1 := hi1.1; have hq0 := HI.out.1; have hbm1 : m1 ≤ 2000000 := (by omega); clear hq0 hq1 hl1; have HQ1 := Lib.hid hi1; clear hi1))
            | (go_at_call 59; ((with_reducible refine (put_any (putP (pts (La.take k)) (fr La k)) m1 c1 b1 off1 (tu La k) w1 HQ1.out hm1 hbm1 hmc1).mono ?_); rintro e w2 ⟨⟨b2, off2, m2, c2, rfl, hi2, hmc2, hm2⟩, hb2⟩; have HQ2 := Lib.hid hi2; clear hi2)))
          go_roundw
          case rel => exact ⟨k + 1, m2, c2, b2, off2, by omega, by go_num, rfl, by rw [HE2.out]; exact HQ2.out, hmc2, hm2, hb.trans ((hb1.trans (hb2.mono hb1.size)).mono hbz)⟩
          case measure => simp [intOf]; omega
        · have HE2 := Lib.hid (HE.out.trans (by rw [step_in _ _ a0 a1, step_low _ _ b0]))
          go_wp2_with (first
            | (go_at_call 59; ((with_reducible refine (HP1.out).mono ?_); rintro e w1 ⟨⟨b1, off1, m1, c1, rfl, hi1, hmc1, hm1⟩, hb1⟩; have hc2 := HC2.out _ hb1; have hl1 := (len_putP (pts (La.take k)) (fr La k)).2.1; have hq1 := hi1.1; have hq0 := HI.out.1; have hbm1 : m1 ≤ 2000000 := (by omega); clear hq0 hq1 hl1; have HQ1 := Lib.hid hi1; clear hi1)))
          go_roundw
          case rel => exact ⟨k + 1, m1, c1, b1, off1, by omega, by go_num, rfl, by rw [HE2.out]; exact HQ1.out, hmc1, hm1, hb.trans (hb1.mono hbz)⟩
          case measure => simp [intOf]; omega
        · have HE2 := Lib.hid (HE.out.trans (by rw [step_in _ _ a0 a1, step_high _ _ b1']))
          go_wp2_with (first
            | (go_at_call 59; ((with_reducible refine (HP1.out).mono ?_); rintro e w1 ⟨⟨b1, off1, m1, c1, rfl, hi1, hmc1, hm1⟩, hb1⟩; have hc2 := HC2.out _ hb1; have hl1 := (len_putP (pts (La.take k)) (fr La k)).2.1; have hq1 := hi1.1; have hq0 := HI.out.1; have hbm1 : m1 ≤ 2000000 := (by omega); clear hq0 hq1 hl1; have HQ1 := Lib.hid hi1; clear hi1)))
          go_roundw
          case rel => exact ⟨k + 1, m1, c1, b1, off1, by omega, by go_num, rfl, by rw [HE2.out]; exact HQ1.out, hmc1, hm1, hb.trans (hb1.mono hbz)⟩
          case measure => simp [intOf]; omega
      · rcases ca2 with ⟨b0, b1'⟩ | b0 | ⟨b0, b1'⟩
        · have HE2 := Lib.hid (HE.out.trans (by rw [step_low _ _ a0, step_in _ _ b0 b1']))
          go_wp2_with (first
            | (go_at_call 59; ((with_reducible refine (HP2.out).mono ?_); rintro e w1 ⟨⟨b1, off1, m1, c1, rfl, hi1, hmc1, hm1⟩, hb1⟩; have HQ1 := Lib.hid hi1; clear hi1)))
          go_roundw
          case rel => exact ⟨k + 1, m1, c1, b1, off1, by omega, by go_num, rfl, by rw [HE2.out]; exact HQ1.out, hmc1, hm1, hb.trans (hb1.mono hbz)⟩
          case measure => simp [intOf]; omega
        · have HE2 := Lib.hid (HE.out.trans (by rw [step_low _ _ a0, step_low _ _ b0]))
          go_wp2
          go_roundw
          case rel => exact ⟨k + 1, m, cc, b, off, by omega, by go_num, rfl, by rw [HE2.out]; exact HI.out, hmc, hm0, hb⟩
          case measure => simp [intOf]; omega
        · have HE2 := Lib.hid (HE.out.trans (by rw [step_low _ _ a0, step_high _ _ b1']))
          go_wp2
          go_roundw
          case rel => exact ⟨k + 1, m, cc, b, off, by omega, by go_num, rfl, by rw [HE2.out]; exact HI.out, hmc, hm0, hb⟩
          case measure => simp [intOf]; omega
      · rcases ca2 with ⟨b0, b1'⟩ | b0 | ⟨b0, b1'⟩
        · have HE2 := Lib.hid (HE.out.trans (by rw [step_high _ _ a1, step_in _ _ b0 b1']))
          go_wp2_with (first
            | (go_at_call 59; ((with_reducible refine (HP2.out).mono ?_); rintro e w1 ⟨⟨b1, off1, m1, c1, rfl, hi1, hmc1, hm1⟩, hb1⟩; have HQ1 := Lib.hid hi1; clear hi1)))
          go_roundw
          case rel => exact ⟨k + 1, m1, c1, b1, off1, by omega, by go_num, rfl, by rw [HE2.out]; exact HQ1.out, hmc1, hm1, hb.trans (hb1.mono hbz)⟩
          case measure => simp [intOf]; omega
        · have HE2 := Lib.hid (HE.out.trans (by rw [step_high _ _ a1, step_low _ _ b0]))
          go_wp2
          go_roundw
          case rel => exact ⟨k + 1, m, cc, b, off, by omega, by go_num, rfl, by rw [HE2.out]; exact HI.out, hmc, hm0, hb⟩
          case measure => simp [intOf]; omega
        · have HE2 := Lib.hid (HE.out.trans (by rw [step_high _ _ a1, step_high _ _ b1']))
          go_wp2
          go_roundw
          case rel => exact ⟨k + 1, m, cc, b, off, by omega, by go_num, rfl, by rw [HE2.out]; exact HI.out, hmc, hm0, hb⟩
          case measure => simp [intOf]; omega
    · obtain rfl : k = N := by omega
      have e : La.take k = La := List.take_of_length_le (by have := HL.out; omega)
      rw [e] at HI
      clear hza
      go_wp2
      go_ret
      exact ⟨⟨b, off, m, cc, rfl, HI.out, hmc, hm0⟩, hb⟩
end Go.Proofs.YtplphinaeikpmaaGreatDoor
