/-
  The contract of Diff.
-/
import Derived.Test.YtklegjmlpaimpaaEdm
namespace Go.Proofs.Ytklegjmlpaimpaa
open Go.RowKit (wrap32 wrap64 intOf Hid Below)
open Lcs Rise

/-- The edits of the gaps ahead of pairs, of which the last one is the end. -/
def eds2 (a b : List Str) : Nat → Nat → List (Nat × Nat) → List Ed
  | _, _, [] => []
  | i, k, p :: r => gap a b i k p.1 p.2 ++ eds2 a b (p.1 + 1) (p.2 + 1) r
theorem eds_two (a b : List Str) : ∀ (ps : List (Nat × Nat)) (i k : Nat), eds a b i k ps = eds2 a b i k (ps ++ [(a.length, b.length)])
  | [], i, k => by unfold eds; simp [eds2]
  | p :: r, i, k => by
    unfold eds
    rw [List.cons_append, eds2, eds_two a b r]
/-- Pairs with room between them. -/
def GapOk (n m : Nat) : Nat → Nat → List (Nat × Nat) → Prop
  | _, _, [] => True
  | i, k, p :: r => i ≤ p.1 ∧ k ≤ p.2 ∧ p.1 ≤ n ∧ p.2 ≤ m ∧ GapOk n m (p.1 + 1) (p.2 + 1) r
theorem gap_ok (a b : List Str) : ∀ (ps : List (Nat × Nat)) (i k : Nat), Chain a b i k ps → i ≤ a.length → k ≤ b.length → GapOk a.length b.length i k (ps ++ [(a.length, b.length)])
  | [], i, k, _, hi, hk => ⟨hi, hk, Nat.le_refl _, Nat.le_refl _, trivial⟩
  | p :: r, i, k, ⟨c1, c2, c3, c4, _, c6⟩, _, _ => ⟨c1, c2, by omega, by omega, gap_ok a b r _ _ c6 (by omega) (by omega)⟩
/-- What Diff answers. -/
def dff (La Lb : List Str) : List Ed := if La = Lb then [] else dif La Lb

set_option maxHeartbeats 8000000 in
set_option maxRecDepth 100000 in
theorem diff_any (La Lb : List Str) (n m c d : Nat) (A D : Option Addr) (w : World) (ha : Sq w A n c La) (hb : Sq w D m d Lb) (hn : n ≤ 1000) (hm : m ≤ 1000) :
    Calls Try.prog 16 #[.slice A n c, .slice D m d] w fun e w' => EdsRet (dff La Lb) e w' ∧ Below w.heap.size w w' := by
  have HA := Lib.hid ha
  have HB := Lib.hid hb
  have HEq := Lib.hid (weq_any La Lb n m c d A D w ha.1.1 hb.1.1 (by omega) (by omega))
  obtain ⟨B, hB⟩ : ∃ B, B = decide (La = Lb) := ⟨_, rfl⟩
  rw [← hB] at HEq
  have HBe := Lib.hid hB
  clear ha hb hB
  go_enter Try.func16, Try.ntmps16
  go_wp2_with fail
  with_reducible refine (HEq.out).mono ?_
  rintro e w1 ⟨rfl, hq⟩
  have hb1 := drew_below hq
  have hb1z := hb1.size
  clear hq
  cases B with
  | true =>
    have HD : Hid (dff La Lb = []) := Lib.hid (by unfold dff; rw [if_pos (of_decide_eq_true HBe.out.symm)])
    go_wp2
    go_ret
    exact ⟨⟨none, 0, 0, rfl, by rw [HD.out]; exact Eds.nil _ _ _ (by omega)⟩, hb1⟩
  | false =>
    have HD : Hid (dff La Lb = eds2 La Lb 0 0 (prl La Lb ++ [(n, m)])) := Lib.hid (by
      unfold dff
      rw [if_neg (of_decide_eq_false HBe.out.symm)]
      unfold dif
      rw [eds_two, HA.out.len, HB.out.len])
    have HGp : Hid (GapOk n m 0 0 (prl La Lb ++ [(n, m)])) := Lib.hid (by
      have h := gap_ok La Lb (prl La Lb) 0 0 (prl_chain La Lb) (Nat.zero_le _) (Nat.zero_le _)
      rwa [HA.out.len, HB.out.len] at h)
    obtain ⟨i0, hi, hz0, hz1, hz2⟩ := info_parts info_pair
    go_wp2
    obtain ⟨G, hG⟩ : ∃ G, G = w1.heap.size := ⟨_, rfl⟩
    obtain ⟨W, hW⟩ : ∃ W, W = (w1.alloc (.cells #[.int .i64 0, .int .i64 0] 29)).alloc (.cells #[.int .i64 (n : Int), .int .i64 (m : Int)] 29) := ⟨_, rfl⟩
    rw [← hW, ← hG]
    have hWb : Below w1.heap.size w1 W := by rw [hW]; exact two_below _ _ _
    have hWs : W.heap.size = G + 2 := by rw [hW, hG]; simp
    have g0 : W.cell? ⟨G, 0, none⟩ = some (.int .i64 0) := by rw [hW, hG, World.cell?_alloc_past _ _ _ (by simp), World.cell?_alloc_at _ _ _ _ rfl]; rfl
    have g1 : W.cell? ⟨G, 1, none⟩ = some (.int .i64 0) := by rw [hW, hG, World.cell?_alloc_past _ _ _ (by simp), World.cell?_alloc_at _ _ _ _ rfl]; rfl
    have gf : ∀ o, W.frozen? ⟨G, o, none⟩ = false := fun o => by
      rw [hW, hG, World.frozen?_alloc_old _ _ _ (by simp)]
      exact World.frozen?_alloc_new _ _ _ _
    have e0 : W.cell? ⟨G + 1, 0, none⟩ = some (.int .i64 (n : Int)) := by rw [hW, hG, World.cell?_alloc_at _ _ _ _ (by simp)]; rfl
    have e1 : W.cell? ⟨G + 1, 1, none⟩ = some (.int .i64 (m : Int)) := by rw [hW, hG, World.cell?_alloc_at _ _ _ _ (by simp)]; rfl
    have hbW := hb1.trans (hWb.mono hb1z)
    have HS : Hid (∀ w', Below W.heap.size W w' → Below W.heap.size W w' ∧ w'.cell? ⟨G + 1, 0, none⟩ = some (.int .i64 (n : Int)) ∧ w'.cell? ⟨G + 1, 1, none⟩ = some (.int .i64 (m : Int))) := Lib.hid fun w' h =>
      ⟨h, (h.cell (p := ⟨G + 1, 0, none⟩) (by simp only []; omega)).trans e0, (h.cell (p := ⟨G + 1, 1, none⟩) (by simp only []; omega)).trans e1⟩
    have HP : Hid (∀ w', Below W.heap.size W w' → Calls Try.prog 12 #[.slice A n c, .slice D m d] w' fun e w'' => PairsRet W.heap.size (prl La Lb) e w'' ∧ Below W.heap.size W w'' ∧ Below w'.heap.size w' w'') := Lib.hid fun w' h =>
      (pairs_any La Lb n m c d A D w' (HA.out.below (hbW.trans (h.mono hbW.size))) (HB.out.below (hbW.trans (h.mono hbW.size))) (by omega) (by omega)).mono fun e w'' ⟨⟨A', n', c', k1, k2, k3⟩, k4⟩ => ⟨⟨A', n', c', k1, k2, own_mono k3 h.size⟩, h.trans (k4.mono h.size), k4⟩
    have HAl := Lib.hid (alloc_below W (.cells #[.int .i64 (n : Int), .int .i64 (m : Int)] 29))
    have HWs := Lib.hid hWs
    have HW := Lib.hid hW
    have HGd := Lib.hid hG
    have hpl : (prl La Lb).length ≤ 1000 := by have := prl_le La Lb; have := HA.out.len; omega
    have HG0 := Lib.hid g0
    have HG1 := Lib.hid g1
    have HGf := Lib.hid gf
    clear hWs hW hG g0 g1 gf
    have hq2 : ∀ q : Nat, q = (prl La Lb).length → q ≤ 1000 := fun q h => by omega
    go_region_held3 (fun w' => Below W.heap.size W w' ∧ w'.cell? ⟨G + 1, 0, none⟩ = some (.int .i64 (n : Int)) ∧ w'.cell? ⟨G + 1, 1, none⟩ = some (.int .i64 (m : Int))) (with_reducible (first | exact HS.out _ (Below.refl _ _) | exact HS.out _ (Below.refl _ _).drew | exact HS.out _ HAl.out | exact HS.out _ HAl.out.drew | exact HS.out _ hb2 | exact HS.out _ hb2.drew | exact HS.out _ (hb2.alloc hb2.size _) | exact HS.out _ (hb2.drew.alloc hb2.size _) | exact HS.out _ (hb2.alloc hb2.size _).drew | exact HS.out _ hb3 | exact HS.out _ hb3.drew)) (first
      | (go_at_call 12; refine (HP.out _ ?_).mono ?_; (with_reducible (first | exact Below.refl _ _ | exact (Below.refl _ _).drew | exact HAl.out | exact HAl.out.drew)); rintro e w2 ⟨⟨A2, q, c2, rfl, hq, hown2⟩, hb2, hcx⟩; have hqs := hq2 q hq; have HQ := Lib.hid hq; clear hq)
      | ((refine step_append_own (by rfl) _ _ _ (by rfl) W.heap.size 29 i0 (.agg #[.int .i64 0, .int .i64 0]) 2 16 Try.underlying25 hi hz0 hz1 hz2 rfl (by omega) (.slice A2 q c2) q (pv (prl La Lb)) (by rfl) (own_below hown2 (by first | exact Below.refl _ _ | exact (Below.refl _ _).drew | exact alloc_below _ _ | exact (alloc_below _ _).drew)) ⟨w2.heap.size, 0, none⟩ 1 1 [.int .i64 (n : Int), .int .i64 (m : Int)] (by rfl) rfl (fun j u hj => new_cells _ _ _ j u hj) (by intro u hu; simp at hu; rcases hu with rfl | rfl <;> rfl) (by unfold maxLen; omega) (by omega) (by have := hb2.size; simp; omega) ?_; intro v3 w3 hown3 hgrow3; have hb3 : Below W.heap.size W w3 := Below.grown (by first | exact hb2 | exact hb2.drew | exact hb2.alloc hb2.size _ | exact (hb2.alloc hb2.size _).drew) hgrow3 (by have := hb2.size; simp; omega) (fun g hg => (hown2.lt g hg).1); (obtain ⟨A3, c3, rfl, _⟩ := own_slice hown3)))
      | ((refine step_append_own (by rfl) _ _ _ (by rfl) W.heap.size 29 i0 (.agg #[.int .i64 0, .int .i64 0]) 2 16 Try.underlying25 hi hz0 hz1 hz2 rfl (by omega) (.slice A2 q c2) q (pv (prl La Lb)) (by rfl) (own_below hown2 (by first | exact Below.refl _ _ | exact (Below.refl _ _).drew | exact alloc_below _ _ | exact (alloc_below _ _).drew)) ⟨W.heap.size, 0, none⟩ 1 1 [.int .i64 (n : Int), .int .i64 (m : Int)] (by rfl) rfl (by first | exact (fun j u hj => kept_cells hcx j u hj) | exact (fun j u hj => kept_cells' hcx j u hj)) (by intro u hu; simp at hu; rcases hu with rfl | rfl <;> rfl) (by unfold maxLen; omega) (by omega) (by have := hb2.size; simp; omega) ?_; intro v3 w3 hown3 hgrow3; have hb3 : Below W.heap.size W w3 := Below.grown (by first | exact hb2 | exact hb2.drew | exact hb2.alloc hb2.size _ | exact (hb2.alloc hb2.size _).drew) hgrow3 (by have := hb2.size; simp; omega) (fun g hg => (hown2.lt g hg).1); (obtain ⟨A3, c3, rfl, _⟩ := own_slice hown3)))
      | fail)
    all_goals
      have HQl := Lib.hid HQ.out
      rw [show pv (prl La Lb) ++ [Value.int .i64 (n : Int), .int .i64 (m : Int)] = pv (prl La Lb ++ [(n, m)]) by rw [pv_app]; rfl] at hown3
      obtain ⟨PL, hPL⟩ : ∃ PL, PL = prl La Lb ++ [(n, m)] := ⟨_, rfl⟩
      have hPLl : q + 1 = PL.length := by rw [hPL, List.length_append, ← HQl.out]; rfl
      rw [← hPL] at hown3 HD HGp
      obtain ⟨g3, rfl, hpc⟩ := pv_cells hown3 (Below.refl _ _) hPLl (by omega)
      have hg3 := hown3.lt g3 rfl
      have hg3G : g3 ≠ G := by have := HWs.out; omega
      have HPc := Lib.hid hpc
      have HPLl := Lib.hid hPLl
      have hG0' : w3.cell? ⟨G, 0, none⟩ = some (.int .i64 0) := (hb3.cell (p := ⟨G, 0, none⟩) (by have := HWs.out; simp only []; omega)).trans HG0.out
      have hG1' : w3.cell? ⟨G, 1, none⟩ = some (.int .i64 0) := (hb3.cell (p := ⟨G, 1, none⟩) (by have := HWs.out; simp only []; omega)).trans HG1.out
      have hGf' : ∀ o, w3.frozen? ⟨G, o, none⟩ = false := fun o => (hb3.frozen (p := ⟨G, o, none⟩) (by have := HWs.out; simp only []; omega)).trans (HGf.out o)
      have HG0' := Lib.hid hG0'
      have HG1' := Lib.hid hG1'
      have HGf' := Lib.hid hGf'
      have HB3 := Lib.hid (hbW.trans (hb3.mono hbW.size))
      have hG3 : G < w3.heap.size := by have := hb3.size; have := HWs.out; omega
      have hGw : w.heap.size ≤ G := by have := HGd.out; omega
      clear hown3 hPL hpc hPLl hG0' hG1' hGf' hown2 hgrow3 hb2 hcx hb3 hbW hWb
      go_wp2
      go_loopw [5, 26] (fun v i wr => ∃ (k x y qq cc : Nat) (Av : Option Addr) (K : List Ed) (vs : List Value), k ≤ q + 1 ∧ i = .int .i64 k ∧ v = .slice Av qq cc ∧ qq = K.length ∧ qq ≤ k ∧ x ≤ 2000 ∧ y ≤ 2000 ∧ dff La Lb = K ++ eds2 La Lb x y (PL.drop k) ∧ GapOk n m x y (PL.drop k) ∧ GSt w3 G Av qq cc K vs x y wr) (fun _ i _ => q + 1 - (intOf i).toNat)
      case atStart => exact ⟨0, 0, 0, 0, 0, none, [], [], Nat.zero_le _, rfl, rfl, rfl, Nat.zero_le _, by omega, by omega, by rw [List.drop_zero, List.nil_append]; exact HD.out, by rw [List.drop_zero]; exact HGp.out, World.ownsRow_nil _ _ _ _, rfl, HG0'.out, HG1'.out, HGf'.out, World.grownBy.refl _ _⟩
      case round =>
        obtain ⟨k, x, y, qq, cc, Av, K, vs, hk, rfl, rfl, hqq, hqk, hx, hy, hd, hgo, hst⟩ := hrel
        have HQq := Lib.hid hqq
        have HDd := Lib.hid hd
        have HSt := Lib.hid hst
        have hbz := hst.grown.size
        have hbw : Below w.heap.size w wr := Below.grown HB3.out hst.grown HB3.out.size (fun g hg => by injection hg with hg; omega)
        clear hqq hd
        by_cases hlt : k < q + 1
        · obtain ⟨⟨x', y'⟩, hp⟩ : ∃ p, p = PL.getD k (0, 0) := ⟨_, rfl⟩
          have hdr : PL.drop k = (x', y') :: PL.drop (k + 1) := by
            rw [List.drop_eq_getElem_cons (by have := HPLl.out; omega)]
            congr 1
            rw [hp, List.getD, List.getElem?_eq_getElem (by have := HPLl.out; omega)]
            rfl
          obtain ⟨p1, p2⟩ := pv_at PL k (by have := HPLl.out; omega)
          rw [← hp] at p1 p2
          have q1 := hst.grown.cell (HPc.out _ _ p1) (by intro e; injection e with e; exact hg3G e)
          have q2 := hst.grown.cell (HPc.out _ _ p2) (by intro e; injection e with e; exact hg3G e)
          rw [hdr] at hgo
          obtain ⟨o1, o2, o3, o4, o5⟩ := hgo
          simp only [] at o1 o2 o3 o4 q1 q2
          have HDr := Lib.hid hdr
          have HGo := Lib.hid o5
          clear hp hdr p1 p2 o5 hst
          have hX := HSt.out.below hG3 (alloc_below wr (.cells #[.int .i64 (x' : Int), .int .i64 (y' : Int)] 29))
          have d0 := hX.c0
          have d1 := hX.c1
          have d2 := hX.cf 0
          have d3 := hX.cf 1
          have HX := Lib.hid hX
          clear hX
          by_cases hne : x = x' ∧ y = y'
          · obtain ⟨rfl, rfl⟩ := hne
            have HGe : Hid (gap La Lb x y x y = []) := Lib.hid (by unfold gap; rw [if_neg (by omega)])
            go_wp2
            go_roundw
            case rel => exact ⟨k + 1, x + 1, y + 1, qq, cc, Av, K, vs, by omega, by go_num, rfl, HQq.out, by omega, by omega, by omega, by rw [HDd.out, HDr.out, eds2, HGe.out, List.nil_append], HGo.out, HX.out.put hG3 _ _⟩
            case measure => simp [intOf]; omega
          · have HGe : Hid (gap La Lb x y x' y' = [⟨x, (La.drop x).take (x' - x), (Lb.drop y).take (y' - y)⟩]) := Lib.hid (by unfold gap; rw [if_pos (by omega)])
            obtain ⟨X, hXe⟩ : ∃ X, X = wr.alloc (.cells #[.int .i64 (x' : Int), .int .i64 (y' : Int)] 29) := ⟨_, rfl⟩
            obtain ⟨N, hN⟩ : ∃ N, N = wr.heap.size := ⟨_, rfl⟩
            have n0 : X.cell? ⟨N, 0, none⟩ = some (.int .i64 (x' : Int)) := by rw [hXe, hN, World.cell?_alloc_at _ _ _ _ rfl]; rfl
            have n1 : X.cell? ⟨N, 1, none⟩ = some (.int .i64 (y' : Int)) := by rw [hXe, hN, World.cell?_alloc_at _ _ _ _ rfl]; rfl
            have hNX : N < X.heap.size := by rw [hXe, hN]; simp
            have hbX : Below w.heap.size w X := by rw [hXe]; exact hbw.trans ((alloc_below wr _).mono hbw.size)
            rw [← hXe] at HX
            have D0 := HX.out.c0
            have D1 := HX.out.c1
            have HD0 := Lib.hid D0
            have HD1 := Lib.hid D1
            have hGX : G < X.heap.size := by have := HX.out.grown.size; omega
            have HS4 : Hid (∀ w', Below X.heap.size X w' → w'.cell? ⟨G, 0, none⟩ = some (.int .i64 (x : Int)) ∧ w'.cell? ⟨G, 1, none⟩ = some (.int .i64 (y : Int)) ∧ w'.cell? ⟨N, 0, none⟩ = some (.int .i64 (x' : Int)) ∧ w'.cell? ⟨N, 1, none⟩ = some (.int .i64 (y' : Int))) := Lib.hid fun w' h =>
              ⟨(h.cell (p := ⟨G, 0, none⟩) hGX).trans HD0.out, (h.cell (p := ⟨G, 1, none⟩) hGX).trans HD1.out, (h.cell (p := ⟨N, 0, none⟩) hNX).trans n0, (h.cell (p := ⟨N, 1, none⟩) hNX).trans n1⟩
            obtain ⟨j0, hj, _, hj1, _⟩ := info_parts info_str
            obtain ⟨k0, hk0, hk1, hk2, hk3⟩ := info_parts info_edit
            have hsa := fun W => run_part (P := Try.prog) (t := 22) Try.underlying22 hj hj1 A n c x x' o1 (by have := HA.out.1.2.1; omega) W
            have hsb := fun W => run_part (P := Try.prog) (t := 22) Try.underlying22 hj hj1 D m d y y' o2 (by have := HB.out.1.2.1; omega) W
            have HCa : Hid (∀ w', Below X.heap.size X w' → Calls Try.prog 31 #[.slice (tl A c x 1) (x' - x) (c - x)] w' fun e w'' => ∃ A' c', e = .returned (.slice A' (x' - x) c') ∧ SqF G (Value.slice Av qq cc).ownBlock w'' A' (x' - x) c' ((La.drop x).take (x' - x)) ∧ Below X.heap.size X w'') := Lib.hid fun w' h => by
              have hv := ((HA.out.below (hbX.trans (h.mono hbX.size))).1.1).part c x x' o1 o3 HA.out.1.2.1
              rw [sv_cut] at hv
              refine (copy_any _ (x' - x) (c - x) _ w' hv (by omega)).mono fun e w'' ⟨A', c', k1, k2, k3, k4⟩ => ⟨A', c', k1, ⟨k2, fun _ b off he => ⟨by have := k4 b off he; have := h.size; omega, fun hob => ?_⟩⟩, h.trans (k3.mono h.size)⟩
              have := (HX.out.own.lt b hob.symm).2
              have := k4 b off he
              have := h.size
              omega
            have HCb : Hid (∀ w', Below X.heap.size X w' → Calls Try.prog 31 #[.slice (tl D d y 1) (y' - y) (d - y)] w' fun e w'' => ∃ A' c', e = .returned (.slice A' (y' - y) c') ∧ SqF G (Value.slice Av qq cc).ownBlock w'' A' (y' - y) c' ((Lb.drop y).take (y' - y)) ∧ Below X.heap.size X w'' ∧ Below w'.heap.size w' w'') := Lib.hid fun w' h => by
              have hv := ((HB.out.below (hbX.trans (h.mono hbX.size))).1.1).part d y y' o2 o4 HB.out.1.2.1
              rw [sv_cut] at hv
              refine (copy_any _ (y' - y) (d - y) _ w' hv (by omega)).mono fun e w'' ⟨A', c', k1, k2, k3, k4⟩ => ⟨A', c', k1, ⟨k2, fun _ b off he => ⟨by have := k4 b off he; have := h.size; omega, fun hob => ?_⟩⟩, h.trans (k3.mono h.size), k3⟩
              have := (HX.out.own.lt b hob.symm).2
              have := k4 b off he
              have := h.size
              omega
            have HOw : Hid (∀ w', Below X.heap.size X w' → w'.ownsRow w3.heap.size 39 3 (.slice Av qq cc) qq vs) := Lib.hid fun w' h => own_below HX.out.own h
            have HX3 : w3.heap.size ≤ X.heap.size := HX.out.grown.size
            have hobN : (Value.slice Av qq cc).ownBlock ≠ some N := fun e => by
              have := (HSt.out.own.lt N e).2
              omega
            have hobG := own_ne HSt.out.own hG3
            have HS5 : Hid (∀ Z w5, Below X.heap.size X Z → Z.grownBy w5 (Value.slice Av qq cc).ownBlock → w5.cell? ⟨G, 0, none⟩ = some (.int .i64 (x : Int)) ∧ w5.cell? ⟨G, 1, none⟩ = some (.int .i64 (y : Int)) ∧ w5.cell? ⟨N, 0, none⟩ = some (.int .i64 (x' : Int)) ∧ w5.cell? ⟨N, 1, none⟩ = some (.int .i64 (y' : Int))) := Lib.hid fun Z w5 h hg => by
              obtain ⟨s1, s2, s3, s4⟩ := HS4.out Z h
              exact ⟨hg.cell s1 (Ne.symm hobG), hg.cell s2 (Ne.symm hobG), hg.cell s3 (Ne.symm hobN), hg.cell s4 (Ne.symm hobN)⟩
            clear hobN hobG
            obtain ⟨lx, hlx⟩ : ∃ lx, lx = x' - x := ⟨_, rfl⟩
            obtain ⟨ly, hly⟩ : ∃ ly, ly = y' - y := ⟨_, rfl⟩
            rw [← hlx] at HCa hsa HGe
            rw [← hly] at HCb hsb HGe
            clear hlx hly
            by_cases hxx : x = x'
            · have hyy : ¬ ((y : Int) = (y' : Int)) := by omega
              subst hxx
              clear hne hj hj1 D0 D1
              go_wp2
              rw [← hXe, ← hN]
              clear hXe hN d0 d1 d2 d3
              go_region_held3 (fun w' => w'.cell? ⟨G, 0, none⟩ = some (.int .i64 (x : Int)) ∧ w'.cell? ⟨G, 1, none⟩ = some (.int .i64 (y : Int)) ∧ w'.cell? ⟨N, 0, none⟩ = some (.int .i64 (x : Int)) ∧ w'.cell? ⟨N, 1, none⟩ = some (.int .i64 (y' : Int))) (with_reducible (first | exact HS4.out _ (Below.refl _ _) | exact HS4.out _ (Below.refl _ _).drew | exact HS4.out _ hbA | exact HS4.out _ hbA.drew | exact HS4.out _ hbB | exact HS4.out _ hbB.drew | exact HS4.out _ (hbB.alloc hbB.size _) | exact HS4.out _ (hbB.drew.alloc hbB.size _) | exact HS4.out _ (hbB.alloc hbB.size _).drew | exact HS5.out _ _ (hbB.alloc hbB.size _) hgrow5 | exact HS5.out _ _ (hbB.alloc hbB.size _).drew hgrow5 | exact HS5.out _ _ (hbB.drew.alloc hbB.size _) hgrow5)) (first
                | (go_at_call 31; ((with_reducible refine (HCa.out _ ?_).mono ?_); (with_reducible (first | exact Below.refl _ _ | exact (Below.refl _ _).drew)); rintro e wA ⟨A4, c4, rfl, hsA, hbA⟩))
                | (go_at_call 31; ((with_reducible refine (HCb.out _ ?_).mono ?_); (with_reducible (first | exact hbA | exact hbA.drew)); rintro e wB ⟨A5, c5, rfl, hsB, hbB, hbAB⟩))
                | ((refine step_append_at (by rfl) _ _ _ (by rfl) w3.heap.size 39 k0 (.agg #[.int .i64 0, .slice none 0 0, .slice none 0 0]) 3 56 Try.underlying31 hk0 hk1 hk2 hk3 rfl (by omega) (.slice Av qq cc) qq vs (by rfl) (HOw.out _ (by first | exact hbB.alloc hbB.size _ | exact (hbB.alloc hbB.size _).drew | exact hbB.drew.alloc hbB.size _)) ⟨wB.heap.size, 0, none⟩ 1 1 [.int .i64 (x : Int), .slice A4 lx c4, .slice A5 ly c5] (by rfl) rfl (by exact fun j u hj => new_cells _ _ _ j u hj) (by intro u hu; simp at hu; rcases hu with rfl | rfl | rfl <;> rfl) (by unfold maxLen; omega) (by omega) (by have := hbB.size; simp; omega) ?_; intro v5 w5 hown5 hgrow5 hat5; (obtain ⟨A6, c6, rfl, _⟩ := own_slice hown5)))
                | fail)
              all_goals
                obtain ⟨Z, hZ, hgr, hat⟩ : ∃ Z, Below wB.heap.size wB Z ∧ Z.grownBy w5 (Value.slice Av qq cc).ownBlock ∧ ((Value.slice A6 (qq + 1) c6).ownBlock = (Value.slice Av qq cc).ownBlock ∨ (Value.slice A6 (qq + 1) c6).ownBlock = some Z.heap.size) := ⟨_, by first | exact alloc_below _ _ | exact (alloc_below _ _).drew | exact (Below.refl _ _).drew.alloc (Nat.le_refl _) _, hgrow5, hat5⟩
                have hAB : Below wA.heap.size wA wB := ⟨hbAB.os, hbAB.tape, hbAB.output, hbAB.size, hbAB.block⟩
                have hZX : Below X.heap.size X Z := hbB.trans (hZ.mono hbB.size)
                have HG6 := Lib.hid ((HX.out.below hG3 hZX).more hG3 (e := ⟨(x : Int), (La.drop x).take lx, (Lb.drop y).take ly⟩) ((hsA.below hAB).below hZ) (hsB.below hZ) rfl hown5 hgr hat)
                obtain ⟨s1, s2, s3, s4⟩ := HS5.out Z w5 hZX hgr
                have f0 := HG6.out.cf 0
                have f1 := HG6.out.cf 1
                clear hgrow5 hat5 hown5 hsA hsB hbA hbB hbAB hZ hgr hat hAB hZX
                go_wp2
                go_roundw
                case rel => exact ⟨k + 1, x + 1, y' + 1, qq + 1, c6, A6, _, _, by omega, by go_num, rfl, by rw [List.length_append, ← HQq.out]; rfl, by omega, by omega, by omega, by rw [HDd.out, HDr.out, eds2, HGe.out, List.append_assoc], HGo.out, HG6.out.put hG3 _ _⟩
                case measure => simp [intOf]; omega
            · have hxx' : ¬ ((x : Int) = (x' : Int)) := by omega
              clear hne hj hj1 D0 D1
              go_wp2
              rw [← hXe, ← hN]
              clear hXe hN d0 d1 d2 d3
              go_region_held3 (fun w' => w'.cell? ⟨G, 0, none⟩ = some (.int .i64 (x : Int)) ∧ w'.cell? ⟨G, 1, none⟩ = some (.int .i64 (y : Int)) ∧ w'.cell? ⟨N, 0, none⟩ = some (.int .i64 (x' : Int)) ∧ w'.cell? ⟨N, 1, none⟩ = some (.int .i64 (y' : Int))) (with_reducible (first | exact HS4.out _ (Below.refl _ _) | exact HS4.out _ (Below.refl _ _).drew | exact HS4.out _ hbA | exact HS4.out _ hbA.drew | exact HS4.out _ hbB | exact HS4.out _ hbB.drew | exact HS4.out _ (hbB.alloc hbB.size _) | exact HS4.out _ (hbB.drew.alloc hbB.size _) | exact HS4.out _ (hbB.alloc hbB.size _).drew | exact HS5.out _ _ (hbB.alloc hbB.size _) hgrow5 | exact HS5.out _ _ (hbB.alloc hbB.size _).drew hgrow5 | exact HS5.out _ _ (hbB.drew.alloc hbB.size _) hgrow5)) (first
                | (go_at_call 31; ((with_reducible refine (HCa.out _ ?_).mono ?_); (with_reducible (first | exact Below.refl _ _ | exact (Below.refl _ _).drew)); rintro e wA ⟨A4, c4, rfl, hsA, hbA⟩))
                | (go_at_call 31; ((with_reducible refine (HCb.out _ ?_).mono ?_); (with_reducible (first | exact hbA | exact hbA.drew)); rintro e wB ⟨A5, c5, rfl, hsB, hbB, hbAB⟩))
                | ((refine step_append_at (by rfl) _ _ _ (by rfl) w3.heap.size 39 k0 (.agg #[.int .i64 0, .slice none 0 0, .slice none 0 0]) 3 56 Try.underlying31 hk0 hk1 hk2 hk3 rfl (by omega) (.slice Av qq cc) qq vs (by rfl) (HOw.out _ (by first | exact hbB.alloc hbB.size _ | exact (hbB.alloc hbB.size _).drew | exact hbB.drew.alloc hbB.size _)) ⟨wB.heap.size, 0, none⟩ 1 1 [.int .i64 (x : Int), .slice A4 lx c4, .slice A5 ly c5] (by rfl) rfl (by exact fun j u hj => new_cells _ _ _ j u hj) (by intro u hu; simp at hu; rcases hu with rfl | rfl | rfl <;> rfl) (by unfold maxLen; omega) (by omega) (by have := hbB.size; simp; omega) ?_; intro v5 w5 hown5 hgrow5 hat5; (obtain ⟨A6, c6, rfl, _⟩ := own_slice hown5)))
                | fail)
              all_goals
                obtain ⟨Z, hZ, hgr, hat⟩ : ∃ Z, Below wB.heap.size wB Z ∧ Z.grownBy w5 (Value.slice Av qq cc).ownBlock ∧ ((Value.slice A6 (qq + 1) c6).ownBlock = (Value.slice Av qq cc).ownBlock ∨ (Value.slice A6 (qq + 1) c6).ownBlock = some Z.heap.size) := ⟨_, by first | exact alloc_below _ _ | exact (alloc_below _ _).drew | exact (Below.refl _ _).drew.alloc (Nat.le_refl _) _, hgrow5, hat5⟩
                have hAB : Below wA.heap.size wA wB := ⟨hbAB.os, hbAB.tape, hbAB.output, hbAB.size, hbAB.block⟩
                have hZX : Below X.heap.size X Z := hbB.trans (hZ.mono hbB.size)
                have HG6 := Lib.hid ((HX.out.below hG3 hZX).more hG3 (e := ⟨(x : Int), (La.drop x).take lx, (Lb.drop y).take ly⟩) ((hsA.below hAB).below hZ) (hsB.below hZ) rfl hown5 hgr hat)
                obtain ⟨s1, s2, s3, s4⟩ := HS5.out Z w5 hZX hgr
                have f0 := HG6.out.cf 0
                have f1 := HG6.out.cf 1
                clear hgrow5 hat5 hown5 hsA hsB hbA hbB hbAB hZ hgr hat hAB hZX
                go_wp2
                go_roundw
                case rel => exact ⟨k + 1, x' + 1, y' + 1, qq + 1, c6, A6, _, _, by omega, by go_num, rfl, by rw [List.length_append, ← HQq.out]; rfl, by omega, by omega, by omega, by rw [HDd.out, HDr.out, eds2, HGe.out, List.append_assoc], HGo.out, HG6.out.put hG3 _ _⟩
                case measure => simp [intOf]; omega
        · have hkq : k = q + 1 := by omega
          have HFin : Hid (dff La Lb = K) := Lib.hid (by rw [HDd.out, List.drop_of_length_le (by have := HPLl.out; omega), eds2, List.append_nil])
          go_wp2
          go_ret
          exact ⟨⟨Av, qq, cc, rfl, by rw [HFin.out]; exact Eds.of_own HSt.out.own (HSt.out.eds.mono fun _ _ _ _ h => h.1) HQq.out⟩, hbw⟩
end Go.Proofs.Ytklegjmlpaimpaa
