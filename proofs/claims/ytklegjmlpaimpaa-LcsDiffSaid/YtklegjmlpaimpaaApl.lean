/-
  The contract of Apply.
-/
import Derived.Test.YtklegjmlpaimpaaAre
namespace Go.Proofs.Ytklegjmlpaimpaa
open Go.RowKit (wrap32 wrap64 intOf Hid Below)
open Lcs Rise

set_option maxHeartbeats 8000000 in
set_option maxRecDepth 100000 in
theorem apply_any (La : List Str) (L : List Ed) (n m c d : Nat) (A D : Option Addr) (w : World) (ha : Sq w A n c La) (hl : Eds w D m d L) (hn : n ≤ 1000) (hm : m ≤ 1000) (hs : Short L) (hnum : Nums L) :
    Calls Try.prog 20 #[.slice A n c, .slice D m d] w fun e w' => AplRet (apl La 0 true L) e w' ∧ Below w.heap.size w w' := by
  have HA := Lib.hid ha
  have HL := Lib.hid hl
  have HS := Lib.hid hs
  have HNu := Lib.hid hnum
  have HLl := Lib.hid hl.1
  have HLa := Lib.hid ha.len
  have hnc := ha.1.2.1
  obtain ⟨i0_, hi, hz0, hz1, hz2⟩ := info_parts info_str
  have HI := Lib.hid hi
  have HZ0 := Lib.hid hz0
  have HZ1 := Lib.hid hz1
  have HZ2 := Lib.hid hz2
  have HAre := Lib.hid (are_any La L n m c d A D w ha hl hn hm hs hnum)
  clear ha hl hs hnum hi hz0 hz1 hz2
  obtain ⟨T, hT⟩ : ∃ T, T = apl La 0 true L := ⟨_, rfl⟩
  rw [← hT] at HAre ⊢
  have HT := Lib.hid hT
  clear hT
  go_enter Try.func20, Try.ntmps20
  go_wp2_with fail
  with_reducible refine (HAre.out).mono ?_
  rintro e w1 ⟨rfl, hb1⟩
  have hb1z := hb1.size
  cases T with
  | none =>
    rw [show (none : Option (List Str)).isSome = false from rfl]
    go_wp2
    go_ret2
    exact ⟨rfl, hb1⟩
  | some t =>
    rw [show (some t).isSome = true from rfl]
    go_wp2
    go_loopw [6, 7, 16] (fun v z i wr => ∃ (k i0 q cc : Nat) (Av : Option Addr) (xs : List Str), k ≤ m ∧ i0 ≤ n ∧ i = .int .i64 k ∧ z = .int .i64 i0 ∧ v = .slice Av q cc ∧ q = xs.length ∧ q ≤ i0 + k * 1000 ∧ some t = (apl La i0 (decide (k = 0)) (L.drop k)).map (fun t => xs ++ t) ∧ wr.ownsRow w.heap.size 9 1 (.slice Av q cc) q (sv xs) ∧ Below w.heap.size w wr) (fun _ _ i _ => m - (intOf i).toNat)
    case atStart => exact ⟨0, 0, 0, 0, none, [], Nat.zero_le _, Nat.zero_le _, rfl, rfl, rfl, rfl, Nat.zero_le _, by rw [List.drop_zero, HT.out]; simp, World.ownsRow_nil _ _ _ _, hb1⟩
    case round =>
      obtain ⟨k, i0, q, cc, Av, xs, hk, hi0, rfl, rfl, rfl, hq, hqb, hd, hown, hbr⟩ := hrel
      have HQ := Lib.hid hq
      have HD := Lib.hid hd
      have HO := Lib.hid hown
      have hbz := hbr.size
      clear hq hd hown
      by_cases hlt : k < m
      · obtain ⟨b, off, Ao, An, no, co, nn, cn, rfl, hblt, e0, e1, e2, so, sn⟩ := HL.out.at_ hlt
        have e0 := (hbr.cell (p := ⟨b, off + k * 3, none⟩) hblt).trans e0
        have e1 := (hbr.cell (p := ⟨b, off + k * 3 + 1, none⟩) hblt).trans e1
        have e2 := (hbr.cell (p := ⟨b, off + k * 3 + 2, none⟩) hblt).trans e2
        have hsh := HS.out k (by have := HLl.out; omega)
        have hdr := ed_drop (L := L) (k := k) (by have := HLl.out; omega)
        obtain ⟨F, hF⟩ : ∃ F, F = ed L k := ⟨_, rfl⟩
        rw [← hF] at e0 so sn hsh hdr
        have hfit : Fit La i0 (decide (k = 0)) F := by
          by_cases hf : Fit La i0 (decide (k = 0)) F
          · exact hf
          · have h := HD.out
            rw [hdr, apl_bad hf] at h
            cases h
        have hst := HD.out
        rw [hdr, apl_step hfit, map_map'] at hst
        obtain ⟨_, f2, _, f4, _⟩ := hfit
        have hno : no ≤ 1000 := by have := so.len; omega
        have hnn : nn ≤ 1000 := by have := sn.len; omega
        have HNo : Hid (F.old.length = no) := Lib.hid so.len
        have HNn : Hid (F.new.length = nn) := Lib.hid sn.len
        have HSn := Lib.hid sn
        rw [so.len, HLa.out] at f4
        obtain ⟨P, hP⟩ : ∃ P, P = F.pos := ⟨_, rfl⟩
        rw [← hP] at e0 f2 f4 hst
        obtain ⟨p, rfl⟩ : ∃ p : Nat, P = p := ⟨P.toNat, by omega⟩
        rw [Int.toNat_natCast, so.len] at hst
        have hpn : p + no ≤ n := by omega
        have hip : i0 ≤ p := by omega
        have g1 : IntKind.i64.wrap ((p : Int) + (no : Int)) = (p : Int) + no := by rw [IntKind.wrap_i64]; omega
        obtain ⟨lx, hlx⟩ : ∃ lx, lx = p - i0 := ⟨_, rfl⟩
        rw [← hlx] at hst
        have HSt := Lib.hid hst
        have hsl : ∀ W, (Instr.slice 22 (.slice A n c) (some (.int .i64 (i0 : Int))) (some (.int .i64 (p : Int))) none).run Try.prog W = .ok (.slice (tl A c i0 1) lx (c - i0)) W := fun W => by
          have h := run_part (P := Try.prog) (t := 22) Try.underlying22 HI.out HZ1.out A n c i0 p (by omega) (by omega) W
          rwa [← hlx] at h
        have HVP : Hid (∀ W, Below w.heap.size w W → ValsAt w.heap.size W (tl A c i0 1) lx (sv ((La.drop i0).take lx))) := Lib.hid fun W h => by
          have h1 := (HA.out.1.1.below h).part c i0 p (by omega) (by omega) hnc
          rw [sv_cut, ← hlx] at h1
          exact h1
        have HVN : Hid (∀ W, Below w.heap.size w W → ValsAt w.heap.size W An nn (sv F.new)) := Lib.hid fun W h => HSn.out.1.1.below h
        have hlxb : lx + i0 = p := by omega
        clear hF hP so sn hdr hsh hst f2 f4 hlx
        have n0 : (wr.alloc (.cells #[.int .i64 (p : Int), .slice Ao no co, .slice An nn cn] 39)).cell? ⟨wr.heap.size, 0, none⟩ = some (.int .i64 (p : Int)) := by rw [World.cell?_alloc_at _ _ _ _ rfl]; rfl
        have n1 : (wr.alloc (.cells #[.int .i64 (p : Int), .slice Ao no co, .slice An nn cn] 39)).cell? ⟨wr.heap.size, 1, none⟩ = some (.slice Ao no co) := by rw [World.cell?_alloc_at _ _ _ _ rfl]; rfl
        have n2 : (wr.alloc (.cells #[.int .i64 (p : Int), .slice Ao no co, .slice An nn cn] 39)).cell? ⟨wr.heap.size, 2, none⟩ = some (.slice An nn cn) := by rw [World.cell?_alloc_at _ _ _ _ rfl]; rfl
        have hbWX : Below wr.heap.size wr (wr.alloc (.cells #[.int .i64 (p : Int), .slice Ao no co, .slice An nn cn] 39)) := alloc_below wr _
        have hbX : Below w.heap.size w (wr.alloc (.cells #[.int .i64 (p : Int), .slice Ao no co, .slice An nn cn] 39)) := hbr.trans (hbWX.mono hbz)
        have hXz := hbX.size
        have HOX := Lib.hid (own_below HO.out hbWX)
        have hob := ob_fresh' HO.out (Nat.le_refl _)
        have hNX : wr.heap.size < (wr.alloc (.cells #[.int .i64 (p : Int), .slice Ao no co, .slice An nn cn] 39)).heap.size := by simp
        have HN0 := Lib.hid n0
        have HN1 := Lib.hid n1
        have HN2 := Lib.hid n2
        have HOb := Lib.hid hob
        have HX := Lib.hid hbX
        have HXz := Lib.hid hXz
        have HNX := Lib.hid hNX
        have hi := HI.out
        have hz0 := HZ0.out
        have hz1 := HZ1.out
        have hz2 := HZ2.out
        clear hbX hbWX hob hXz hNX
        go_wp2_with (at_builtin; refine wpList_append_vat _ rfl _ _ 22 rfl w.heap.size 9 i0_ (.string ⟨#[]⟩) 16 Try.underlying22 hi hz0 hz1 hz2 rfl _ _ _ rfl HOX.out _ _ _ _ _ rfl (HVP.out _ HX.out) (sv_one _) (by unfold maxLen; omega) (by omega) HXz.out ?_)
        intro A2 c2 w2 hown2 hg2 hat2
        have x0 := hg2.cell HN0.out (Ne.symm HOb.out)
        have x1 := hg2.cell HN1.out (Ne.symm HOb.out)
        have x2 := hg2.cell HN2.out (Ne.symm HOb.out)
        have hb2 := below_own HOX.out HX.out HXz.out hg2
        have hb2z := hb2.size
        have hob2 : (Value.slice A2 (q + lx) c2).ownBlock ≠ some wr.heap.size := by
          rcases hat2 with h | h
          · rw [h]; exact HOb.out
          · rw [h]
            intro e
            injection e with e
            have := HNX.out
            omega
        have HO2 := Lib.hid hown2
        have HB2 := Lib.hid hb2
        have HX0 := Lib.hid x0
        have HX1 := Lib.hid x1
        have HOb2 := Lib.hid hob2
        clear hown2 hg2 hat2 hb2 hob2
        go_wp2_with (at_builtin; refine wpList_append_vat _ rfl _ _ 22 rfl w.heap.size 9 i0_ (.string ⟨#[]⟩) 16 Try.underlying22 hi hz0 hz1 hz2 rfl _ _ _ rfl HO2.out _ _ _ _ _ rfl (HVN.out _ HB2.out) (sv_one _) (by unfold maxLen; omega) (by omega) hb2z ?_)
        intro A3 c3 w3 hown3 hg3 _
        have y0 := hg3.cell HX0.out (Ne.symm HOb2.out)
        have y1 := hg3.cell HX1.out (Ne.symm HOb2.out)
        have HB3 := Lib.hid (below_own HO2.out HB2.out hb2z hg3)
        have HO3 := Lib.hid hown3
        clear hown3 hg3 hi hz0 hz1 hz2 n0 n1 n2 x0 x1 x2
        go_wp2
        go_roundw
        case rel => exact ⟨k + 1, p + no, q + lx + nn, c3, A3, xs ++ (La.drop i0).take lx ++ F.new, by omega, by omega, by go_num, by go_num, rfl, by rw [List.length_append, List.length_append, ← HQ.out, HNn.out, List.length_take, List.length_drop, HLa.out]; omega, by omega, by rw [HSt.out, List.append_assoc, decide_eq_false (by omega : ¬ k + 1 = 0)], by rw [sv_app, sv_app, List.append_assoc]; exact HO3.out, HB3.out⟩
        case measure => simp [intOf]; omega
      · obtain rfl : k = m := by omega
        have hst := HD.out
        rw [List.drop_of_length_le (by have := HLl.out; omega)] at hst
        have ht : t = xs ++ La.drop i0 := by injection hst
        have hsl : ∀ W, (Instr.slice 22 (.slice A n c) (some (.int .i64 (i0 : Int))) none none).run Try.prog W = .ok (.slice (tl A c i0 1) (n - i0) (c - i0)) W := fun W =>
          run_from (P := Try.prog) (t := 22) Try.underlying22 HI.out HZ1.out A n c i0 hi0 W
        have hv := (HA.out.1.1.below hbr).tail c i0 hi0 hnc
        rw [sv_drop] at hv
        have HV := Lib.hid hv
        have HTt := Lib.hid ht
        have hi := HI.out
        have hz0 := HZ0.out
        have hz1 := HZ1.out
        have hz2 := HZ2.out
        clear hv hst ht
        go_wp2_with (at_builtin; refine wpList_append_vals _ rfl _ _ 22 rfl w.heap.size 9 i0_ (.string ⟨#[]⟩) 16 Try.underlying22 hi hz0 hz1 hz2 rfl _ _ _ rfl HO.out _ _ _ _ _ rfl HV.out (sv_one _) (by unfold maxLen; omega) (by omega) hbz ?_)
        intro A2 c2 w2 hown2 hg2
        have hb2 := below_own HO.out hbr hbz hg2
        have HO2 := Lib.hid hown2
        clear hown2 hg2 hi hz0 hz1 hz2
        go_wp2
        go_ret2
        refine ⟨⟨A2, q + (n - i0), c2, rfl, ?_⟩, hb2⟩
        rw [HTt.out]
        exact Sq.of_own (by rw [sv_app]; exact HO2.out) (by omega)
end Go.Proofs.Ytklegjmlpaimpaa
