/-
  The contract of the reference's Apply.
-/
import Derived.Test.YtklegjmlpaimpaaVat
namespace Go.Proofs.Ytklegjmlpaimpaa
open Go.RowKit (wrap32 wrap64 intOf Hid Below)
open Lcs Rise

/-- The edits' places are numbers of the machine. -/
def Nums (L : List Ed) : Prop := ∀ k, k < L.length → -9223372036854775808 ≤ (ed L k).pos ∧ (ed L k).pos ≤ 9223372036854775807
/-- What Apply hands back. -/
def AplRet (t : Option (List Str)) (e : Ending) (w' : World) : Prop := match t with
  | some t => ∃ A n c, e = .returned (.tuple #[.slice A n c, .int .i64 0]) ∧ Sq w' A n c t
  | none => e = .returned (.tuple #[.slice none 0 0, .int .i64 2])
theorem apl_step {a : List Str} {i : Nat} {f : Bool} {e : Ed} {r : List Ed} (h : Fit a i f e) : apl a i f (e :: r) = (apl a (e.pos.toNat + e.old.length) false r).map fun t => ((a.drop i).take (e.pos.toNat - i) ++ e.new) ++ t := by
  rw [apl, if_pos h]
  congr 1
  funext t
  rw [List.append_assoc]
theorem apl_bad {a : List Str} {i : Nat} {f : Bool} {e : Ed} {r : List Ed} (h : ¬ Fit a i f e) : apl a i f (e :: r) = none := by rw [apl, if_neg h]
theorem map_map' {t : Option (List Str)} (x y : List Str) : (t.map fun t => y ++ t).map (fun t => x ++ t) = t.map fun t => (x ++ y) ++ t := by
  cases t <;> simp

set_option maxHeartbeats 8000000 in
set_option maxRecDepth 100000 in
theorem rapply_any (La : List Str) (L : List Ed) (n m c d : Nat) (A D : Option Addr) (w : World) (ha : Sq w A n c La) (hl : Eds w D m d L) (hn : n ≤ 1000) (hm : m ≤ 1000) (hs : Short L) (hnum : Nums L) :
    Calls Try.prog 22 #[.slice A n c, .slice D m d] w fun e w' => AplRet (apl La 0 true L) e w' ∧ Below w.heap.size w w' := by
  have HA := Lib.hid ha
  have HL := Lib.hid hl
  have HS := Lib.hid hs
  have HNu := Lib.hid hnum
  have HLl := Lib.hid hl.1
  have HLa := Lib.hid ha.len
  have hnc := ha.1.2.1
  obtain ⟨i0_, hi, hz0, hz1, hz2⟩ := info_parts info_str
  have HI := Lib.hid hi
  have HZ0 := Lib.hid hz0
  have HZ1 := Lib.hid hz1
  have HZ2 := Lib.hid hz2
  have hA0 := alloc_below w (.cells #[] 9)
  have HO0 := Lib.hid (own_empty w 9 1)
  clear ha hl hs hnum hi hz0 hz1 hz2
  go_enter Try.func22, Try.ntmps22
  go_wp2
  go_loopw [6, 7, 8] (fun v z i wr => ∃ (k i0 q cc : Nat) (Av : Option Addr) (xs : List Str), k ≤ m ∧ i0 ≤ n ∧ i = .int .i64 k ∧ z = .int .i64 i0 ∧ v = .slice Av q cc ∧ q = xs.length ∧ q ≤ i0 + k * 1000 ∧ (k = 0 → i0 = 0) ∧ apl La 0 true L = (apl La i0 (decide (k = 0)) (L.drop k)).map (fun t => xs ++ t) ∧ wr.ownsRow w.heap.size 9 1 (.slice Av q cc) q (sv xs) ∧ Below w.heap.size w wr) (fun _ _ i _ => m - (intOf i).toNat)
  case atStart => exact ⟨0, 0, 0, 0, _, [], Nat.zero_le _, Nat.zero_le _, rfl, rfl, rfl, rfl, Nat.zero_le _, fun _ => rfl, by rw [List.drop_zero]; simp, HO0.out, hA0⟩
  case round =>
    obtain ⟨k, i0, q, cc, Av, xs, hk, hi0, rfl, rfl, rfl, hq, hqb, hk0, hd, hown, hbr⟩ := hrel
    have HQ := Lib.hid hq
    have HD := Lib.hid hd
    have HO := Lib.hid hown
    have HK0 := Lib.hid hk0
    have hbz := hbr.size
    clear hq hd hown hk0
    by_cases hlt : k < m
    · obtain ⟨b, off, Ao, An, no, co, nn, cn, rfl, hblt, e0, e1, e2, so, sn⟩ := HL.out.at_ hlt
      have e0 := (hbr.cell (p := ⟨b, off + k * 3, none⟩) hblt).trans e0
      have e1 := (hbr.cell (p := ⟨b, off + k * 3 + 1, none⟩) hblt).trans e1
      have e2 := (hbr.cell (p := ⟨b, off + k * 3 + 2, none⟩) hblt).trans e2
      have hsh := HS.out k (by have := HLl.out; omega)
      obtain ⟨p1, p2⟩ := HNu.out k (by have := HLl.out; omega)
      have hdr := ed_drop (L := L) (k := k) (by have := HLl.out; omega)
      obtain ⟨E, hE⟩ : ∃ E, E = ed L k := ⟨_, rfl⟩
      rw [← hE] at e0 so sn hsh hdr p1 p2
      obtain ⟨P, hP⟩ : ∃ P, P = E.pos := ⟨_, rfl⟩
      rw [← hP] at e0 p1 p2
      have hno : no ≤ 1000 := by have := so.len; omega
      have hnn : nn ≤ 1000 := by have := sn.len; omega
      have HSo := Lib.hid so
      have HSn := Lib.hid sn
      have HDr := Lib.hid hdr
      have HPe := Lib.hid hP
      have HNo : Hid (E.old.length = no) := Lib.hid so.len
      have HNn : Hid (E.new.length = nn) := Lib.hid sn.len
      clear hE hP so sn hdr hsh
      obtain ⟨X, hXe⟩ : ∃ X, X = wr.alloc (.cells #[.int .i64 P, .slice Ao no co, .slice An nn cn] 39) := ⟨_, rfl⟩
      obtain ⟨N, hN⟩ : ∃ N, N = wr.heap.size := ⟨_, rfl⟩
      have n0 : X.cell? ⟨N, 0, none⟩ = some (.int .i64 P) := by rw [hXe, hN, World.cell?_alloc_at _ _ _ _ rfl]; rfl
      have n1 : X.cell? ⟨N, 1, none⟩ = some (.slice Ao no co) := by rw [hXe, hN, World.cell?_alloc_at _ _ _ _ rfl]; rfl
      have n2 : X.cell? ⟨N, 2, none⟩ = some (.slice An nn cn) := by rw [hXe, hN, World.cell?_alloc_at _ _ _ _ rfl]; rfl
      have hNX : N < X.heap.size := by rw [hXe, hN]; simp
      have hbWX : Below wr.heap.size wr X := by rw [hXe]; exact alloc_below wr _
      have hbX : Below w.heap.size w X := hbr.trans (hbWX.mono hbz)
      have HOX := Lib.hid (own_below HO.out hbWX)
      have hXz := hbX.size
      have HXe := Lib.hid hXe
      have HNe := Lib.hid hN
      have bad : ¬ Fit La i0 (decide (k = 0)) E → apl La 0 true L = none := fun h => by
        rw [HD.out, HDr.out, apl_bad h]
        rfl
      have HBad := Lib.hid bad
      have HFit : Hid (Fit La i0 (decide (k = 0)) E ↔ ¬ (no = 0 ∧ nn = 0) ∧ (i0 : Int) ≤ P ∧ (k = 0 ∨ P ≠ i0) ∧ P + no ≤ n ∧ (La.drop P.toNat).take no = E.old) := Lib.hid (by
        unfold Fit
        rw [HNo.out, ← HPe.out, HLa.out]
        rw [show (E.old = [] ∧ E.new = []) ↔ (no = 0 ∧ nn = 0) by rw [← HNo.out, ← HNn.out, List.length_eq_zero_iff, List.length_eq_zero_iff]]
        simp)
      clear bad hXe hN
      by_cases hz : no = 0 ∧ nn = 0
      · obtain ⟨rfl, rfl⟩ := hz
        have HB := Lib.hid (HBad.out (fun h => (HFit.out.1 h).1 ⟨rfl, rfl⟩))
        go_wp2
        rw [← HXe.out, ← HNe.out]
        go_quiet (fail)
        go_wp2
        go_ret2
        exact ⟨by rw [HB.out]; rfl, below_drawn hbX _⟩
      · by_cases hn0 : no = 0
        · by_cases hk0 : k = 0
          · have HZ : Hid (¬ (no = 0 ∧ nn = 0)) := Lib.hid hz
            have e3 : ((no : Int) == 0) = true := by rw [beq_iff_eq]; omega
            have e4 : ((nn : Int) == 0) = false := by rw [beq_eq_false_iff_ne]; omega
            clear hz hn0
            have HKz := Lib.hid hk0
            have hk1 : ¬ 0 < k := by omega
            have dk : decide (0 < k) = false := decide_eq_false hk1
            clear hk0
            by_cases h1 : P < (i0 : Int)
            · have HB := Lib.hid (HBad.out (fun h => by have := (HFit.out.1 h).2.1; omega))
              go_wp2
              rw [← HXe.out, ← HNe.out]
              go_quiet (fail)
              go_wp2
              go_ret2
              exact ⟨by rw [HB.out]; rfl, below_drawn hbX _⟩
            · have d1 : decide (P < (i0 : Int)) = false := decide_eq_false h1
              obtain ⟨p, rfl⟩ : ∃ p : Nat, P = p := ⟨P.toNat, by omega⟩
              have d1' : decide (p < i0) = false := decide_eq_false (by omega)
              have d1n : ¬ p < i0 := by omega
              have HKP : Hid (k = 0 ∨ (p : Int) ≠ i0) := Lib.hid (Or.inl HKz.out)
              by_cases h3 : n < p
              · have HB := Lib.hid (HBad.out (fun h => by have := (HFit.out.1 h).2.2.2.1; omega))
                go_wp2
                rw [← HXe.out, ← HNe.out]
                go_quiet (fail)
                go_wp2
                go_ret2
                exact ⟨by rw [HB.out]; rfl, below_drawn hbX _⟩
              · have d3 : decide (n < p) = false := decide_eq_false h3
                by_cases h4 : (n : Int) - p < no
                · have HB := Lib.hid (HBad.out (fun h => by have := (HFit.out.1 h).2.2.2.1; omega))
                  go_wp2
                  rw [← HXe.out, ← HNe.out]
                  go_quiet (fail)
                  go_wp2
                  go_ret2
                  exact ⟨by rw [HB.out]; rfl, below_drawn hbX _⟩
                · have d4 : decide ((n : Int) - p < no) = false := decide_eq_false h4
                  have g1 : IntKind.i64.wrap ((p : Int) + (no : Int)) = (p : Int) + no := by rw [IntKind.wrap_i64]; omega
                  have g2 : IntKind.i64.wrap ((n : Int) - (p : Int)) = (n : Int) - p := by rw [IntKind.wrap_i64]; omega
                  have hsl : ∀ W, (Instr.slice 22 (.slice A n c) (some (.int .i64 (p : Int))) (some (.int .i64 ((p : Int) + no))) none).run Try.prog W = .ok (.slice (tl A c p 1) no (c - p)) W := fun W => by
                    have h := run_part (P := Try.prog) (t := 22) Try.underlying22 HI.out HZ1.out A n c p (p + no) (by omega) (by omega) W
                    rwa [show p + no - p = no by omega] at h
                  obtain ⟨lx, hlx⟩ : ∃ lx, lx = p - i0 := ⟨_, rfl⟩
                  have hsl2 : ∀ W, (Instr.slice 22 (.slice A n c) (some (.int .i64 (i0 : Int))) (some (.int .i64 (p : Int))) none).run Try.prog W = .ok (.slice (tl A c i0 1) lx (c - i0)) W := fun W => by
                    have h := run_part (P := Try.prog) (t := 22) Try.underlying22 HI.out HZ1.out A n c i0 p (by omega) (by omega) W
                    rwa [← hlx] at h
                  have HLx := Lib.hid hlx
                  clear hlx
                  have HDw : Hid (∀ q, Below X.heap.size X (X.drewN q)) := Lib.hid fun q => below_drawn (Below.refl _ _) q
                  obtain ⟨B, hB⟩ : ∃ B, B = decide ((La.drop p).take no = E.old) := ⟨_, rfl⟩
                  have HC : Hid (∀ w', Below X.heap.size X w' → Calls Try.prog 19 #[.slice (tl A c p 1) no (c - p), .slice Ao no co] w' fun e w'' => e = .returned (.bool B) ∧ ∃ q, w'' = w'.drewN q) := Lib.hid fun w' h => by
                    have hw := hbX.trans (h.mono hXz)
                    have hs' := HSo.out.below hw
                    have hv := ((HA.out.below hw).1.1).part c p (p + no) (by omega) (by omega) hnc
                    rw [sv_cut, show p + no - p = no by omega] at hv
                    rw [hB]
                    exact same_any _ _ w'.heap.size no no (c - p) co (tl A c p 1) Ao w' hv hs'.1.1 (by omega) (by omega) (Nat.le_refl _)
                  have HBb := Lib.hid hB
                  clear hB
                  cases B with
                  | false =>
                    have HB := Lib.hid (HBad.out (fun h => of_decide_eq_false HBb.out.symm (HFit.out.1 h).2.2.2.2))
                    go_wp2
                    rw [← HXe.out, ← HNe.out]
                    go_quiet (with_reducible exact Calls.quiet_of (v := .bool false) (HC.out _ (HDw.out _)))
                    go_wp2
                    go_ret2
                    exact ⟨by rw [HB.out]; rfl, below_drawn hbX _⟩
                  | true =>
                    have HFt := Lib.hid (HFit.out.2 ⟨HZ.out, by omega, HKP.out, by omega, of_decide_eq_true HBb.out.symm⟩)
                    have HSt := apl_step (r := L.drop (k + 1)) HFt.out
                    rw [HNo.out, ← HPe.out, Int.toNat_natCast, ← HLx.out] at HSt
                    have HSt := Lib.hid HSt
                    have HVP : Hid (∀ W, Below w.heap.size w W → ValsAt w.heap.size W (tl A c i0 1) lx (sv ((La.drop i0).take lx))) := Lib.hid fun W h => by
                      have h1 := (HA.out.1.1.below h).part c i0 p (by omega) (by omega) hnc
                      rw [sv_cut, ← HLx.out] at h1
                      exact h1
                    have HVN : Hid (∀ W, Below w.heap.size w W → ValsAt w.heap.size W An nn (sv E.new)) := Lib.hid fun W h => HSn.out.1.1.below h
                    have HOw : Hid (∀ W, Below X.heap.size X W → W.ownsRow w.heap.size 9 1 (.slice Av q cc) q (sv xs)) := Lib.hid fun W h => own_below HOX.out h
                    have HBw : Hid (∀ W, Below X.heap.size X W → Below w.heap.size w W ∧ w.heap.size ≤ W.heap.size) := Lib.hid fun W h => ⟨hbX.trans (h.mono hXz), Nat.le_trans hXz h.size⟩
                    have hobN : (Value.slice Av q cc).ownBlock ≠ some N := ob_fresh' HO.out (by rw [HNe.out]; exact Nat.le_refl _)
                    have HOb := Lib.hid hobN
                    have HN2 := Lib.hid n2
                    have HN0 := Lib.hid n0
                    have HN1 := Lib.hid n1
                    have hi := HI.out
                    have hz0 := HZ0.out
                    have hz1 := HZ1.out
                    have hz2 := HZ2.out
                    have hlx : lx ≤ 1000 := by have := HLx.out; omega
                    clear hobN
                    go_wp2
                    rw [← HXe.out, ← HNe.out]
                    go_quiet (with_reducible exact Calls.quiet_of (v := .bool true) (HC.out _ (HDw.out _)))
                    go_wp2
                    go_region_law (first
                      | (refine step_append_vat _ (by rfl) _ _ _ (by rfl) w.heap.size 9 i0_ (.string ⟨#[]⟩) 16 Try.underlying22 hi hz0 hz1 hz2 rfl (.slice Av q cc) q (sv xs) (by rfl) (HOw.out _ (by first | exact HDw.out _ | exact (HDw.out _).drew)) w.heap.size (tl A c i0 1) lx (c - i0) (sv ((La.drop i0).take lx)) (by rfl) (HVP.out _ (HBw.out _ (by first | exact HDw.out _ | exact (HDw.out _).drew)).1) (sv_one _) (by unfold maxLen; omega) (by omega) (HBw.out _ (by first | exact HDw.out _ | exact (HDw.out _).drew)).2 ?_; intro A2 c2 w2 hown2 hg2 hat2; have hS2 : Below w.heap.size w w2 := below_own (HOw.out _ (by first | exact HDw.out _ | exact (HDw.out _).drew)) (HBw.out _ (by first | exact HDw.out _ | exact (HDw.out _).drew)).1 (HBw.out _ (by first | exact HDw.out _ | exact (HDw.out _).drew)).2 hg2; have hy0 : w2.cell? ⟨N, 0, none⟩ = some (.int .i64 (p : Int)) := hg2.cell (by exact HN0.out) (Ne.symm HOb.out); have hy1 : w2.cell? ⟨N, 1, none⟩ = some (.slice Ao no co) := hg2.cell (by exact HN1.out) (Ne.symm HOb.out); have hy2 : w2.cell? ⟨N, 2, none⟩ = some (.slice An nn cn) := hg2.cell (by exact HN2.out) (Ne.symm HOb.out); have hob2 : (Value.slice A2 (q + lx) c2).ownBlock ≠ some N := (fun e => hat2.elim (fun h => HOb.out (h.symm.trans e)) (fun h => by rw [h] at e; injection e with e; first | omega | (simp at e; omega))); have hW2 := hS2.size)
                      | (refine step_append_vat _ (by rfl) _ _ _ (by rfl) w.heap.size 9 i0_ (.string ⟨#[]⟩) 16 Try.underlying22 hi hz0 hz1 hz2 rfl (.slice A2 (q + lx) c2) (q + lx) (sv xs ++ sv ((La.drop i0).take lx)) (by rfl) (by first | exact hown2 | exact hown2.drew) w.heap.size An nn cn (sv E.new) (by rfl) (HVN.out _ (by first | exact hS2 | exact hS2.drew)) (sv_one _) (by unfold maxLen; omega) (by omega) (by first | omega | (simp; omega)) ?_; intro A3 c3 w3 hown3 hg3 _; have hS3 : Below w.heap.size w w3 := below_own (by first | exact hown2 | exact hown2.drew) (by first | exact hS2 | exact hS2.drew) (by first | omega | (simp; omega)) hg3))
                    all_goals
                      have hx0 : w3.cell? ⟨N, 0, none⟩ = some (.int .i64 (p : Int)) := hg3.cell (by exact hy0) (Ne.symm hob2)
                      have hx1 : w3.cell? ⟨N, 1, none⟩ = some (.slice Ao no co) := hg3.cell (by exact hy1) (Ne.symm hob2)
                      have HV3 := Lib.hid hown3
                      have HS3 := Lib.hid hS3
                      clear hown3 hown2 hS3 hS2 hg2 hg3 hy0 hy1 hy2 hob2 hat2
                      go_wp2
                      go_roundw
                      case rel => exact ⟨k + 1, p + no, q + lx + nn, c3, A3, xs ++ (La.drop i0).take lx ++ E.new, by omega, by omega, by go_num, by go_num, rfl, by rw [List.length_append, List.length_append, ← HQ.out, HNn.out, List.length_take, List.length_drop, HLa.out]; have := HLx.out; omega, by have := HLx.out; omega, fun h => absurd h (by omega), by rw [HD.out, HDr.out, HSt.out, map_map', List.append_assoc, decide_eq_false (by omega : ¬ k + 1 = 0)], by rw [sv_app, sv_app]; first | exact HV3.out | exact HV3.out.drew, by first | exact HS3.out | exact HS3.out.drew⟩
                      case measure => simp [intOf]; omega
          · have HZ : Hid (¬ (no = 0 ∧ nn = 0)) := Lib.hid hz
            have e3 : ((no : Int) == 0) = true := by rw [beq_iff_eq]; omega
            have e4 : ((nn : Int) == 0) = false := by rw [beq_eq_false_iff_ne]; omega
            clear hz hn0
            have hk1 : 0 < k := by omega
            by_cases h1 : P < (i0 : Int)
            · have HB := Lib.hid (HBad.out (fun h => by have := (HFit.out.1 h).2.1; omega))
              go_wp2
              rw [← HXe.out, ← HNe.out]
              go_quiet (fail)
              go_wp2
              go_ret2
              exact ⟨by rw [HB.out]; rfl, below_drawn hbX _⟩
            · have d1 : decide (P < (i0 : Int)) = false := decide_eq_false h1
              obtain ⟨p, rfl⟩ : ∃ p : Nat, P = p := ⟨P.toNat, by omega⟩
              have d1' : decide (p < i0) = false := decide_eq_false (by omega)
              have d1n : ¬ p < i0 := by omega
              by_cases h2 : (p : Int) = i0
              · have HB := Lib.hid (HBad.out (fun h => by
                  rcases (HFit.out.1 h).2.2.1 with h | h
                  · omega
                  · exact h h2))
                have e5 : ((p : Int) == (i0 : Int)) = true := by rw [beq_iff_eq]; exact h2
                clear h2
                go_wp2
                rw [← HXe.out, ← HNe.out]
                go_quiet (fail)
                go_wp2
                go_ret2
                exact ⟨by rw [HB.out]; rfl, below_drawn hbX _⟩
              have HKP : Hid (k = 0 ∨ (p : Int) ≠ i0) := Lib.hid (Or.inr h2)
              have e5 : ((p : Int) == (i0 : Int)) = false := by rw [beq_eq_false_iff_ne]; exact h2
              have e6 : ¬ ((p : Int) = (i0 : Int)) := h2

              by_cases h3 : n < p
              · have HB := Lib.hid (HBad.out (fun h => by have := (HFit.out.1 h).2.2.2.1; omega))
                go_wp2
                rw [← HXe.out, ← HNe.out]
                go_quiet (fail)
                go_wp2
                go_ret2
                exact ⟨by rw [HB.out]; rfl, below_drawn hbX _⟩
              · have d3 : decide (n < p) = false := decide_eq_false h3
                by_cases h4 : (n : Int) - p < no
                · have HB := Lib.hid (HBad.out (fun h => by have := (HFit.out.1 h).2.2.2.1; omega))
                  go_wp2
                  rw [← HXe.out, ← HNe.out]
                  go_quiet (fail)
                  go_wp2
                  go_ret2
                  exact ⟨by rw [HB.out]; rfl, below_drawn hbX _⟩
                · have d4 : decide ((n : Int) - p < no) = false := decide_eq_false h4
                  have g1 : IntKind.i64.wrap ((p : Int) + (no : Int)) = (p : Int) + no := by rw [IntKind.wrap_i64]; omega
                  have g2 : IntKind.i64.wrap ((n : Int) - (p : Int)) = (n : Int) - p := by rw [IntKind.wrap_i64]; omega
                  have hsl : ∀ W, (Instr.slice 22 (.slice A n c) (some (.int .i64 (p : Int))) (some (.int .i64 ((p : Int) + no))) none).run Try.prog W = .ok (.slice (tl A c p 1) no (c - p)) W := fun W => by
                    have h := run_part (P := Try.prog) (t := 22) Try.underlying22 HI.out HZ1.out A n c p (p + no) (by omega) (by omega) W
                    rwa [show p + no - p = no by omega] at h
                  obtain ⟨lx, hlx⟩ : ∃ lx, lx = p - i0 := ⟨_, rfl⟩
                  have hsl2 : ∀ W, (Instr.slice 22 (.slice A n c) (some (.int .i64 (i0 : Int))) (some (.int .i64 (p : Int))) none).run Try.prog W = .ok (.slice (tl A c i0 1) lx (c - i0)) W := fun W => by
                    have h := run_part (P := Try.prog) (t := 22) Try.underlying22 HI.out HZ1.out A n c i0 p (by omega) (by omega) W
                    rwa [← hlx] at h
                  have HLx := Lib.hid hlx
                  clear hlx
                  have HDw : Hid (∀ q, Below X.heap.size X (X.drewN q)) := Lib.hid fun q => below_drawn (Below.refl _ _) q
                  obtain ⟨B, hB⟩ : ∃ B, B = decide ((La.drop p).take no = E.old) := ⟨_, rfl⟩
                  have HC : Hid (∀ w', Below X.heap.size X w' → Calls Try.prog 19 #[.slice (tl A c p 1) no (c - p), .slice Ao no co] w' fun e w'' => e = .returned (.bool B) ∧ ∃ q, w'' = w'.drewN q) := Lib.hid fun w' h => by
                    have hw := hbX.trans (h.mono hXz)
                    have hs' := HSo.out.below hw
                    have hv := ((HA.out.below hw).1.1).part c p (p + no) (by omega) (by omega) hnc
                    rw [sv_cut, show p + no - p = no by omega] at hv
                    rw [hB]
                    exact same_any _ _ w'.heap.size no no (c - p) co (tl A c p 1) Ao w' hv hs'.1.1 (by omega) (by omega) (Nat.le_refl _)
                  have HBb := Lib.hid hB
                  clear hB
                  cases B with
                  | false =>
                    have HB := Lib.hid (HBad.out (fun h => of_decide_eq_false HBb.out.symm (HFit.out.1 h).2.2.2.2))
                    go_wp2
                    rw [← HXe.out, ← HNe.out]
                    go_quiet (with_reducible exact Calls.quiet_of (v := .bool false) (HC.out _ (HDw.out _)))
                    go_wp2
                    go_ret2
                    exact ⟨by rw [HB.out]; rfl, below_drawn hbX _⟩
                  | true =>
                    have HFt := Lib.hid (HFit.out.2 ⟨HZ.out, by omega, HKP.out, by omega, of_decide_eq_true HBb.out.symm⟩)
                    have HSt := apl_step (r := L.drop (k + 1)) HFt.out
                    rw [HNo.out, ← HPe.out, Int.toNat_natCast, ← HLx.out] at HSt
                    have HSt := Lib.hid HSt
                    have HVP : Hid (∀ W, Below w.heap.size w W → ValsAt w.heap.size W (tl A c i0 1) lx (sv ((La.drop i0).take lx))) := Lib.hid fun W h => by
                      have h1 := (HA.out.1.1.below h).part c i0 p (by omega) (by omega) hnc
                      rw [sv_cut, ← HLx.out] at h1
                      exact h1
                    have HVN : Hid (∀ W, Below w.heap.size w W → ValsAt w.heap.size W An nn (sv E.new)) := Lib.hid fun W h => HSn.out.1.1.below h
                    have HOw : Hid (∀ W, Below X.heap.size X W → W.ownsRow w.heap.size 9 1 (.slice Av q cc) q (sv xs)) := Lib.hid fun W h => own_below HOX.out h
                    have HBw : Hid (∀ W, Below X.heap.size X W → Below w.heap.size w W ∧ w.heap.size ≤ W.heap.size) := Lib.hid fun W h => ⟨hbX.trans (h.mono hXz), Nat.le_trans hXz h.size⟩
                    have hobN : (Value.slice Av q cc).ownBlock ≠ some N := ob_fresh' HO.out (by rw [HNe.out]; exact Nat.le_refl _)
                    have HOb := Lib.hid hobN
                    have HN2 := Lib.hid n2
                    have HN0 := Lib.hid n0
                    have HN1 := Lib.hid n1
                    have hi := HI.out
                    have hz0 := HZ0.out
                    have hz1 := HZ1.out
                    have hz2 := HZ2.out
                    have hlx : lx ≤ 1000 := by have := HLx.out; omega
                    clear hobN
                    go_wp2
                    rw [← HXe.out, ← HNe.out]
                    go_quiet (with_reducible exact Calls.quiet_of (v := .bool true) (HC.out _ (HDw.out _)))
                    go_wp2
                    go_region_law (first
                      | (refine step_append_vat _ (by rfl) _ _ _ (by rfl) w.heap.size 9 i0_ (.string ⟨#[]⟩) 16 Try.underlying22 hi hz0 hz1 hz2 rfl (.slice Av q cc) q (sv xs) (by rfl) (HOw.out _ (by first | exact HDw.out _ | exact (HDw.out _).drew)) w.heap.size (tl A c i0 1) lx (c - i0) (sv ((La.drop i0).take lx)) (by rfl) (HVP.out _ (HBw.out _ (by first | exact HDw.out _ | exact (HDw.out _).drew)).1) (sv_one _) (by unfold maxLen; omega) (by omega) (HBw.out _ (by first | exact HDw.out _ | exact (HDw.out _).drew)).2 ?_; intro A2 c2 w2 hown2 hg2 hat2; have hS2 : Below w.heap.size w w2 := below_own (HOw.out _ (by first | exact HDw.out _ | exact (HDw.out _).drew)) (HBw.out _ (by first | exact HDw.out _ | exact (HDw.out _).drew)).1 (HBw.out _ (by first | exact HDw.out _ | exact (HDw.out _).drew)).2 hg2; have hy0 : w2.cell? ⟨N, 0, none⟩ = some (.int .i64 (p : Int)) := hg2.cell (by exact HN0.out) (Ne.symm HOb.out); have hy1 : w2.cell? ⟨N, 1, none⟩ = some (.slice Ao no co) := hg2.cell (by exact HN1.out) (Ne.symm HOb.out); have hy2 : w2.cell? ⟨N, 2, none⟩ = some (.slice An nn cn) := hg2.cell (by exact HN2.out) (Ne.symm HOb.out); have hob2 : (Value.slice A2 (q + lx) c2).ownBlock ≠ some N := (fun e => hat2.elim (fun h => HOb.out (h.symm.trans e)) (fun h => by rw [h] at e; injection e with e; first | omega | (simp at e; omega))); have hW2 := hS2.size)
                      | (refine step_append_vat _ (by rfl) _ _ _ (by rfl) w.heap.size 9 i0_ (.string ⟨#[]⟩) 16 Try.underlying22 hi hz0 hz1 hz2 rfl (.slice A2 (q + lx) c2) (q + lx) (sv xs ++ sv ((La.drop i0).take lx)) (by rfl) (by first | exact hown2 | exact hown2.drew) w.heap.size An nn cn (sv E.new) (by rfl) (HVN.out _ (by first | exact hS2 | exact hS2.drew)) (sv_one _) (by unfold maxLen; omega) (by omega) (by first | omega | (simp; omega)) ?_; intro A3 c3 w3 hown3 hg3 _; have hS3 : Below w.heap.size w w3 := below_own (by first | exact hown2 | exact hown2.drew) (by first | exact hS2 | exact hS2.drew) (by first | omega | (simp; omega)) hg3))
                    all_goals
                      have hx0 : w3.cell? ⟨N, 0, none⟩ = some (.int .i64 (p : Int)) := hg3.cell (by exact hy0) (Ne.symm hob2)
                      have hx1 : w3.cell? ⟨N, 1, none⟩ = some (.slice Ao no co) := hg3.cell (by exact hy1) (Ne.symm hob2)
                      have HV3 := Lib.hid hown3
                      have HS3 := Lib.hid hS3
                      clear hown3 hown2 hS3 hS2 hg2 hg3 hy0 hy1 hy2 hob2 hat2
                      go_wp2
                      go_roundw
                      case rel => exact ⟨k + 1, p + no, q + lx + nn, c3, A3, xs ++ (La.drop i0).take lx ++ E.new, by omega, by omega, by go_num, by go_num, rfl, by rw [List.length_append, List.length_append, ← HQ.out, HNn.out, List.length_take, List.length_drop, HLa.out]; have := HLx.out; omega, by have := HLx.out; omega, fun h => absurd h (by omega), by rw [HD.out, HDr.out, HSt.out, map_map', List.append_assoc, decide_eq_false (by omega : ¬ k + 1 = 0)], by rw [sv_app, sv_app]; first | exact HV3.out | exact HV3.out.drew, by first | exact HS3.out | exact HS3.out.drew⟩
                      case measure => simp [intOf]; omega
        · by_cases hk0 : k = 0
          · have HZ : Hid (¬ (no = 0 ∧ nn = 0)) := Lib.hid hz
            have e3 : ((no : Int) == 0) = false := by rw [beq_eq_false_iff_ne]; omega
            clear hz
            have HKz := Lib.hid hk0
            have hk1 : ¬ 0 < k := by omega
            have dk : decide (0 < k) = false := decide_eq_false hk1
            clear hk0
            by_cases h1 : P < (i0 : Int)
            · have HB := Lib.hid (HBad.out (fun h => by have := (HFit.out.1 h).2.1; omega))
              go_wp2
              rw [← HXe.out, ← HNe.out]
              go_quiet (fail)
              go_wp2
              go_ret2
              exact ⟨by rw [HB.out]; rfl, below_drawn hbX _⟩
            · have d1 : decide (P < (i0 : Int)) = false := decide_eq_false h1
              obtain ⟨p, rfl⟩ : ∃ p : Nat, P = p := ⟨P.toNat, by omega⟩
              have d1' : decide (p < i0) = false := decide_eq_false (by omega)
              have d1n : ¬ p < i0 := by omega
              have HKP : Hid (k = 0 ∨ (p : Int) ≠ i0) := Lib.hid (Or.inl HKz.out)
              by_cases h3 : n < p
              · have HB := Lib.hid (HBad.out (fun h => by have := (HFit.out.1 h).2.2.2.1; omega))
                go_wp2
                rw [← HXe.out, ← HNe.out]
                go_quiet (fail)
                go_wp2
                go_ret2
                exact ⟨by rw [HB.out]; rfl, below_drawn hbX _⟩
              · have d3 : decide (n < p) = false := decide_eq_false h3
                by_cases h4 : (n : Int) - p < no
                · have HB := Lib.hid (HBad.out (fun h => by have := (HFit.out.1 h).2.2.2.1; omega))
                  go_wp2
                  rw [← HXe.out, ← HNe.out]
                  go_quiet (fail)
                  go_wp2
                  go_ret2
                  exact ⟨by rw [HB.out]; rfl, below_drawn hbX _⟩
                · have d4 : decide ((n : Int) - p < no) = false := decide_eq_false h4
                  have g1 : IntKind.i64.wrap ((p : Int) + (no : Int)) = (p : Int) + no := by rw [IntKind.wrap_i64]; omega
                  have g2 : IntKind.i64.wrap ((n : Int) - (p : Int)) = (n : Int) - p := by rw [IntKind.wrap_i64]; omega
                  have hsl : ∀ W, (Instr.slice 22 (.slice A n c) (some (.int .i64 (p : Int))) (some (.int .i64 ((p : Int) + no))) none).run Try.prog W = .ok (.slice (tl A c p 1) no (c - p)) W := fun W => by
                    have h := run_part (P := Try.prog) (t := 22) Try.underlying22 HI.out HZ1.out A n c p (p + no) (by omega) (by omega) W
                    rwa [show p + no - p = no by omega] at h
                  obtain ⟨lx, hlx⟩ : ∃ lx, lx = p - i0 := ⟨_, rfl⟩
                  have hsl2 : ∀ W, (Instr.slice 22 (.slice A n c) (some (.int .i64 (i0 : Int))) (some (.int .i64 (p : Int))) none).run Try.prog W = .ok (.slice (tl A c i0 1) lx (c - i0)) W := fun W => by
                    have h := run_part (P := Try.prog) (t := 22) Try.underlying22 HI.out HZ1.out A n c i0 p (by omega) (by omega) W
                    rwa [← hlx] at h
                  have HLx := Lib.hid hlx
                  clear hlx
                  have HDw : Hid (∀ q, Below X.heap.size X (X.drewN q)) := Lib.hid fun q => below_drawn (Below.refl _ _) q
                  obtain ⟨B, hB⟩ : ∃ B, B = decide ((La.drop p).take no = E.old) := ⟨_, rfl⟩
                  have HC : Hid (∀ w', Below X.heap.size X w' → Calls Try.prog 19 #[.slice (tl A c p 1) no (c - p), .slice Ao no co] w' fun e w'' => e = .returned (.bool B) ∧ ∃ q, w'' = w'.drewN q) := Lib.hid fun w' h => by
                    have hw := hbX.trans (h.mono hXz)
                    have hs' := HSo.out.below hw
                    have hv := ((HA.out.below hw).1.1).part c p (p + no) (by omega) (by omega) hnc
                    rw [sv_cut, show p + no - p = no by omega] at hv
                    rw [hB]
                    exact same_any _ _ w'.heap.size no no (c - p) co (tl A c p 1) Ao w' hv hs'.1.1 (by omega) (by omega) (Nat.le_refl _)
                  have HBb := Lib.hid hB
                  clear hB
                  cases B with
                  | false =>
                    have HB := Lib.hid (HBad.out (fun h => of_decide_eq_false HBb.out.symm (HFit.out.1 h).2.2.2.2))
                    go_wp2
                    rw [← HXe.out, ← HNe.out]
                    go_quiet (with_reducible exact Calls.quiet_of (v := .bool false) (HC.out _ (HDw.out _)))
                    go_wp2
                    go_ret2
                    exact ⟨by rw [HB.out]; rfl, below_drawn hbX _⟩
                  | true =>
                    have HFt := Lib.hid (HFit.out.2 ⟨HZ.out, by omega, HKP.out, by omega, of_decide_eq_true HBb.out.symm⟩)
                    have HSt := apl_step (r := L.drop (k + 1)) HFt.out
                    rw [HNo.out, ← HPe.out, Int.toNat_natCast, ← HLx.out] at HSt
                    have HSt := Lib.hid HSt
                    have HVP : Hid (∀ W, Below w.heap.size w W → ValsAt w.heap.size W (tl A c i0 1) lx (sv ((La.drop i0).take lx))) := Lib.hid fun W h => by
                      have h1 := (HA.out.1.1.below h).part c i0 p (by omega) (by omega) hnc
                      rw [sv_cut, ← HLx.out] at h1
                      exact h1
                    have HVN : Hid (∀ W, Below w.heap.size w W → ValsAt w.heap.size W An nn (sv E.new)) := Lib.hid fun W h => HSn.out.1.1.below h
                    have HOw : Hid (∀ W, Below X.heap.size X W → W.ownsRow w.heap.size 9 1 (.slice Av q cc) q (sv xs)) := Lib.hid fun W h => own_below HOX.out h
                    have HBw : Hid (∀ W, Below X.heap.size X W → Below w.heap.size w W ∧ w.heap.size ≤ W.heap.size) := Lib.hid fun W h => ⟨hbX.trans (h.mono hXz), Nat.le_trans hXz h.size⟩
                    have hobN : (Value.slice Av q cc).ownBlock ≠ some N := ob_fresh' HO.out (by rw [HNe.out]; exact Nat.le_refl _)
                    have HOb := Lib.hid hobN
                    have HN2 := Lib.hid n2
                    have HN0 := Lib.hid n0
                    have HN1 := Lib.hid n1
                    have hi := HI.out
                    have hz0 := HZ0.out
                    have hz1 := HZ1.out
                    have hz2 := HZ2.out
                    have hlx : lx ≤ 1000 := by have := HLx.out; omega
                    clear hobN
                    go_wp2
                    rw [← HXe.out, ← HNe.out]
                    go_quiet (with_reducible exact Calls.quiet_of (v := .bool true) (HC.out _ (HDw.out _)))
                    go_wp2
                    go_region_law (first
                      | (refine step_append_vat _ (by rfl) _ _ _ (by rfl) w.heap.size 9 i0_ (.string ⟨#[]⟩) 16 Try.underlying22 hi hz0 hz1 hz2 rfl (.slice Av q cc) q (sv xs) (by rfl) (HOw.out _ (by first | exact HDw.out _ | exact (HDw.out _).drew)) w.heap.size (tl A c i0 1) lx (c - i0) (sv ((La.drop i0).take lx)) (by rfl) (HVP.out _ (HBw.out _ (by first | exact HDw.out _ | exact (HDw.out _).drew)).1) (sv_one _) (by unfold maxLen; omega) (by omega) (HBw.out _ (by first | exact HDw.out _ | exact (HDw.out _).drew)).2 ?_; intro A2 c2 w2 hown2 hg2 hat2; have hS2 : Below w.heap.size w w2 := below_own (HOw.out _ (by first | exact HDw.out _ | exact (HDw.out _).drew)) (HBw.out _ (by first | exact HDw.out _ | exact (HDw.out _).drew)).1 (HBw.out _ (by first | exact HDw.out _ | exact (HDw.out _).drew)).2 hg2; have hy0 : w2.cell? ⟨N, 0, none⟩ = some (.int .i64 (p : Int)) := hg2.cell (by exact HN0.out) (Ne.symm HOb.out); have hy1 : w2.cell? ⟨N, 1, none⟩ = some (.slice Ao no co) := hg2.cell (by exact HN1.out) (Ne.symm HOb.out); have hy2 : w2.cell? ⟨N, 2, none⟩ = some (.slice An nn cn) := hg2.cell (by exact HN2.out) (Ne.symm HOb.out); have hob2 : (Value.slice A2 (q + lx) c2).ownBlock ≠ some N := (fun e => hat2.elim (fun h => HOb.out (h.symm.trans e)) (fun h => by rw [h] at e; injection e with e; first | omega | (simp at e; omega))); have hW2 := hS2.size)
                      | (refine step_append_vat _ (by rfl) _ _ _ (by rfl) w.heap.size 9 i0_ (.string ⟨#[]⟩) 16 Try.underlying22 hi hz0 hz1 hz2 rfl (.slice A2 (q + lx) c2) (q + lx) (sv xs ++ sv ((La.drop i0).take lx)) (by rfl) (by first | exact hown2 | exact hown2.drew) w.heap.size An nn cn (sv E.new) (by rfl) (HVN.out _ (by first | exact hS2 | exact hS2.drew)) (sv_one _) (by unfold maxLen; omega) (by omega) (by first | omega | (simp; omega)) ?_; intro A3 c3 w3 hown3 hg3 _; have hS3 : Below w.heap.size w w3 := below_own (by first | exact hown2 | exact hown2.drew) (by first | exact hS2 | exact hS2.drew) (by first | omega | (simp; omega)) hg3))
                    all_goals
                      have hx0 : w3.cell? ⟨N, 0, none⟩ = some (.int .i64 (p : Int)) := hg3.cell (by exact hy0) (Ne.symm hob2)
                      have hx1 : w3.cell? ⟨N, 1, none⟩ = some (.slice Ao no co) := hg3.cell (by exact hy1) (Ne.symm hob2)
                      have HV3 := Lib.hid hown3
                      have HS3 := Lib.hid hS3
                      clear hown3 hown2 hS3 hS2 hg2 hg3 hy0 hy1 hy2 hob2 hat2
                      go_wp2
                      go_roundw
                      case rel => exact ⟨k + 1, p + no, q + lx + nn, c3, A3, xs ++ (La.drop i0).take lx ++ E.new, by omega, by omega, by go_num, by go_num, rfl, by rw [List.length_append, List.length_append, ← HQ.out, HNn.out, List.length_take, List.length_drop, HLa.out]; have := HLx.out; omega, by have := HLx.out; omega, fun h => absurd h (by omega), by rw [HD.out, HDr.out, HSt.out, map_map', List.append_assoc, decide_eq_false (by omega : ¬ k + 1 = 0)], by rw [sv_app, sv_app]; first | exact HV3.out | exact HV3.out.drew, by first | exact HS3.out | exact HS3.out.drew⟩
                      case measure => simp [intOf]; omega
          · have HZ : Hid (¬ (no = 0 ∧ nn = 0)) := Lib.hid hz
            have e3 : ((no : Int) == 0) = false := by rw [beq_eq_false_iff_ne]; omega
            clear hz
            have hk1 : 0 < k := by omega
            by_cases h1 : P < (i0 : Int)
            · have HB := Lib.hid (HBad.out (fun h => by have := (HFit.out.1 h).2.1; omega))
              go_wp2
              rw [← HXe.out, ← HNe.out]
              go_quiet (fail)
              go_wp2
              go_ret2
              exact ⟨by rw [HB.out]; rfl, below_drawn hbX _⟩
            · have d1 : decide (P < (i0 : Int)) = false := decide_eq_false h1
              obtain ⟨p, rfl⟩ : ∃ p : Nat, P = p := ⟨P.toNat, by omega⟩
              have d1' : decide (p < i0) = false := decide_eq_false (by omega)
              have d1n : ¬ p < i0 := by omega
              by_cases h2 : (p : Int) = i0
              · have HB := Lib.hid (HBad.out (fun h => by
                  rcases (HFit.out.1 h).2.2.1 with h | h
                  · omega
                  · exact h h2))
                have e5 : ((p : Int) == (i0 : Int)) = true := by rw [beq_iff_eq]; exact h2
                clear h2
                go_wp2
                rw [← HXe.out, ← HNe.out]
                go_quiet (fail)
                go_wp2
                go_ret2
                exact ⟨by rw [HB.out]; rfl, below_drawn hbX _⟩
              have HKP : Hid (k = 0 ∨ (p : Int) ≠ i0) := Lib.hid (Or.inr h2)
              have e5 : ((p : Int) == (i0 : Int)) = false := by rw [beq_eq_false_iff_ne]; exact h2
              have e6 : ¬ ((p : Int) = (i0 : Int)) := h2

              by_cases h3 : n < p
              · have HB := Lib.hid (HBad.out (fun h => by have := (HFit.out.1 h).2.2.2.1; omega))
                go_wp2
                rw [← HXe.out, ← HNe.out]
                go_quiet (fail)
                go_wp2
                go_ret2
                exact ⟨by rw [HB.out]; rfl, below_drawn hbX _⟩
              · have d3 : decide (n < p) = false := decide_eq_false h3
                by_cases h4 : (n : Int) - p < no
                · have HB := Lib.hid (HBad.out (fun h => by have := (HFit.out.1 h).2.2.2.1; omega))
                  go_wp2
                  rw [← HXe.out, ← HNe.out]
                  go_quiet (fail)
                  go_wp2
                  go_ret2
                  exact ⟨by rw [HB.out]; rfl, below_drawn hbX _⟩
                · have d4 : decide ((n : Int) - p < no) = false := decide_eq_false h4
                  have g1 : IntKind.i64.wrap ((p : Int) + (no : Int)) = (p : Int) + no := by rw [IntKind.wrap_i64]; omega
                  have g2 : IntKind.i64.wrap ((n : Int) - (p : Int)) = (n : Int) - p := by rw [IntKind.wrap_i64]; omega
                  have hsl : ∀ W, (Instr.slice 22 (.slice A n c) (some (.int .i64 (p : Int))) (some (.int .i64 ((p : Int) + no))) none).run Try.prog W = .ok (.slice (tl A c p 1) no (c - p)) W := fun W => by
                    have h := run_part (P := Try.prog) (t := 22) Try.underlying22 HI.out HZ1.out A n c p (p + no) (by omega) (by omega) W
                    rwa [show p + no - p = no by omega] at h
                  obtain ⟨lx, hlx⟩ : ∃ lx, lx = p - i0 := ⟨_, rfl⟩
                  have hsl2 : ∀ W, (Instr.slice 22 (.slice A n c) (some (.int .i64 (i0 : Int))) (some (.int .i64 (p : Int))) none).run Try.prog W = .ok (.slice (tl A c i0 1) lx (c - i0)) W := fun W => by
                    have h := run_part (P := Try.prog) (t := 22) Try.underlying22 HI.out HZ1.out A n c i0 p (by omega) (by omega) W
                    rwa [← hlx] at h
                  have HLx := Lib.hid hlx
                  clear hlx
                  have HDw : Hid (∀ q, Below X.heap.size X (X.drewN q)) := Lib.hid fun q => below_drawn (Below.refl _ _) q
                  obtain ⟨B, hB⟩ : ∃ B, B = decide ((La.drop p).take no = E.old) := ⟨_, rfl⟩
                  have HC : Hid (∀ w', Below X.heap.size X w' → Calls Try.prog 19 #[.slice (tl A c p 1) no (c - p), .slice Ao no co] w' fun e w'' => e = .returned (.bool B) ∧ ∃ q, w'' = w'.drewN q) := Lib.hid fun w' h => by
                    have hw := hbX.trans (h.mono hXz)
                    have hs' := HSo.out.below hw
                    have hv := ((HA.out.below hw).1.1).part c p (p + no) (by omega) (by omega) hnc
                    rw [sv_cut, show p + no - p = no by omega] at hv
                    rw [hB]
                    exact same_any _ _ w'.heap.size no no (c - p) co (tl A c p 1) Ao w' hv hs'.1.1 (by omega) (by omega) (Nat.le_refl _)
                  have HBb := Lib.hid hB
                  clear hB
                  cases B with
                  | false =>
                    have HB := Lib.hid (HBad.out (fun h => of_decide_eq_false HBb.out.symm (HFit.out.1 h).2.2.2.2))
                    go_wp2
                    rw [← HXe.out, ← HNe.out]
                    go_quiet (with_reducible exact Calls.quiet_of (v := .bool false) (HC.out _ (HDw.out _)))
                    go_wp2
                    go_ret2
                    exact ⟨by rw [HB.out]; rfl, below_drawn hbX _⟩
                  | true =>
                    have HFt := Lib.hid (HFit.out.2 ⟨HZ.out, by omega, HKP.out, by omega, of_decide_eq_true HBb.out.symm⟩)
                    have HSt := apl_step (r := L.drop (k + 1)) HFt.out
                    rw [HNo.out, ← HPe.out, Int.toNat_natCast, ← HLx.out] at HSt
                    have HSt := Lib.hid HSt
                    have HVP : Hid (∀ W, Below w.heap.size w W → ValsAt w.heap.size W (tl A c i0 1) lx (sv ((La.drop i0).take lx))) := Lib.hid fun W h => by
                      have h1 := (HA.out.1.1.below h).part c i0 p (by omega) (by omega) hnc
                      rw [sv_cut, ← HLx.out] at h1
                      exact h1
                    have HVN : Hid (∀ W, Below w.heap.size w W → ValsAt w.heap.size W An nn (sv E.new)) := Lib.hid fun W h => HSn.out.1.1.below h
                    have HOw : Hid (∀ W, Below X.heap.size X W → W.ownsRow w.heap.size 9 1 (.slice Av q cc) q (sv xs)) := Lib.hid fun W h => own_below HOX.out h
                    have HBw : Hid (∀ W, Below X.heap.size X W → Below w.heap.size w W ∧ w.heap.size ≤ W.heap.size) := Lib.hid fun W h => ⟨hbX.trans (h.mono hXz), Nat.le_trans hXz h.size⟩
                    have hobN : (Value.slice Av q cc).ownBlock ≠ some N := ob_fresh' HO.out (by rw [HNe.out]; exact Nat.le_refl _)
                    have HOb := Lib.hid hobN
                    have HN2 := Lib.hid n2
                    have HN0 := Lib.hid n0
                    have HN1 := Lib.hid n1
                    have hi := HI.out
                    have hz0 := HZ0.out
                    have hz1 := HZ1.out
                    have hz2 := HZ2.out
                    have hlx : lx ≤ 1000 := by have := HLx.out; omega
                    clear hobN
                    go_wp2
                    rw [← HXe.out, ← HNe.out]
                    go_quiet (with_reducible exact Calls.quiet_of (v := .bool true) (HC.out _ (HDw.out _)))
                    go_wp2
                    go_region_law (first
                      | (refine step_append_vat _ (by rfl) _ _ _ (by rfl) w.heap.size 9 i0_ (.string ⟨#[]⟩) 16 Try.underlying22 hi hz0 hz1 hz2 rfl (.slice Av q cc) q (sv xs) (by rfl) (HOw.out _ (by first | exact HDw.out _ | exact (HDw.out _).drew)) w.heap.size (tl A c i0 1) lx (c - i0) (sv ((La.drop i0).take lx)) (by rfl) (HVP.out _ (HBw.out _ (by first | exact HDw.out _ | exact (HDw.out _).drew)).1) (sv_one _) (by unfold maxLen; omega) (by omega) (HBw.out _ (by first | exact HDw.out _ | exact (HDw.out _).drew)).2 ?_; intro A2 c2 w2 hown2 hg2 hat2; have hS2 : Below w.heap.size w w2 := below_own (HOw.out _ (by first | exact HDw.out _ | exact (HDw.out _).drew)) (HBw.out _ (by first | exact HDw.out _ | exact (HDw.out _).drew)).1 (HBw.out _ (by first | exact HDw.out _ | exact (HDw.out _).drew)).2 hg2; have hy0 : w2.cell? ⟨N, 0, none⟩ = some (.int .i64 (p : Int)) := hg2.cell (by exact HN0.out) (Ne.symm HOb.out); have hy1 : w2.cell? ⟨N, 1, none⟩ = some (.slice Ao no co) := hg2.cell (by exact HN1.out) (Ne.symm HOb.out); have hy2 : w2.cell? ⟨N, 2, none⟩ = some (.slice An nn cn) := hg2.cell (by exact HN2.out) (Ne.symm HOb.out); have hob2 : (Value.slice A2 (q + lx) c2).ownBlock ≠ some N := (fun e => hat2.elim (fun h => HOb.out (h.symm.trans e)) (fun h => by rw [h] at e; injection e with e; first | omega | (simp at e; omega))); have hW2 := hS2.size)
                      | (refine step_append_vat _ (by rfl) _ _ _ (by rfl) w.heap.size 9 i0_ (.string ⟨#[]⟩) 16 Try.underlying22 hi hz0 hz1 hz2 rfl (.slice A2 (q + lx) c2) (q + lx) (sv xs ++ sv ((La.drop i0).take lx)) (by rfl) (by first | exact hown2 | exact hown2.drew) w.heap.size An nn cn (sv E.new) (by rfl) (HVN.out _ (by first | exact hS2 | exact hS2.drew)) (sv_one _) (by unfold maxLen; omega) (by omega) (by first | omega | (simp; omega)) ?_; intro A3 c3 w3 hown3 hg3 _; have hS3 : Below w.heap.size w w3 := below_own (by first | exact hown2 | exact hown2.drew) (by first | exact hS2 | exact hS2.drew) (by first | omega | (simp; omega)) hg3))
                    all_goals
                      have hx0 : w3.cell? ⟨N, 0, none⟩ = some (.int .i64 (p : Int)) := hg3.cell (by exact hy0) (Ne.symm hob2)
                      have hx1 : w3.cell? ⟨N, 1, none⟩ = some (.slice Ao no co) := hg3.cell (by exact hy1) (Ne.symm hob2)
                      have HV3 := Lib.hid hown3
                      have HS3 := Lib.hid hS3
                      clear hown3 hown2 hS3 hS2 hg2 hg3 hy0 hy1 hy2 hob2 hat2
                      go_wp2
                      go_roundw
                      case rel => exact ⟨k + 1, p + no, q + lx + nn, c3, A3, xs ++ (La.drop i0).take lx ++ E.new, by omega, by omega, by go_num, by go_num, rfl, by rw [List.length_append, List.length_append, ← HQ.out, HNn.out, List.length_take, List.length_drop, HLa.out]; have := HLx.out; omega, by have := HLx.out; omega, fun h => absurd h (by omega), by rw [HD.out, HDr.out, HSt.out, map_map', List.append_assoc, decide_eq_false (by omega : ¬ k + 1 = 0)], by rw [sv_app, sv_app]; first | exact HV3.out | exact HV3.out.drew, by first | exact HS3.out | exact HS3.out.drew⟩
                      case measure => simp [intOf]; omega
    · obtain rfl : k = m := by omega
      have hfin : apl La 0 true L = some (xs ++ La.drop i0) := by rw [HD.out, List.drop_of_length_le (by have := HLl.out; omega), apl]; rfl
      have HFin := Lib.hid hfin
      have hsl := fun W => run_from (P := Try.prog) (t := 22) Try.underlying22 HI.out HZ1.out A n c i0 hi0 W
      have HV := Lib.hid (((HA.out.1.1.below hbr).mono hbz).tail c i0 hi0 hnc)
      have hi := HI.out
      have hz0 := HZ0.out
      have hz1 := HZ1.out
      have hz2 := HZ2.out
      clear hfin
      go_wp2_with (at_builtin; refine wpList_append_vals _ rfl _ _ 22 rfl w.heap.size 9 i0_ (.string ⟨#[]⟩) 16 Try.underlying22 hi hz0 hz1 hz2 rfl _ _ _ rfl HO.out _ _ _ _ _ rfl (by have h := HV.out; rw [sv_drop] at h; exact h) (sv_one _) (by unfold maxLen; omega) (by omega) hbz ?_)
      intro A2 c2 w2 hown2 hg2
      have hb2 := below_own HO.out hbr hbz hg2
      rw [← sv_app] at hown2
      have HS2 := Lib.hid (Sq.of_own hown2 (by omega))
      clear hown2 hg2
      go_wp2
      go_ret2
      exact ⟨by rw [HFin.out]; exact ⟨A2, _, c2, rfl, HS2.out⟩, hb2⟩
end Go.Proofs.Ytklegjmlpaimpaa
