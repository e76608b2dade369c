/-
  The contract of the reference's Both.
-/
import Derived.Test.YtplphinaeikpmaaGreatDoorBothM
namespace Go.Proofs.YtplphinaeikpmaaGreatDoor
open Go.RowKit (wrap32 wrap64 intOf Hid Below)
open Spans

/-- The cells of a slice of spans, wherever they lie. -/
theorem spans_news {B : Nat} {w : World} {A : Option Addr} {n : Nat} {L : List Sp} (h : SpansAt B w A n L) : ∀ ad, A = some ad → ∀ j u, (cells L)[j]? = some u → w.cell? (ad.add j) = some u := by
  intro ad had j u hj
  have hjl : j < L.length * 2 := by
    rcases Nat.lt_or_ge j (L.length * 2) with h' | h'
    · exact h'
    · rw [List.getElem?_eq_none (by rw [cells_length]; exact h')] at hj; cases hj
  have hn := h.1
  obtain ⟨b, off, e, _, hc⟩ := h.2 (by omega)
  rw [e] at had
  cases had
  rw [cells_get L j hjl] at hj
  rw [Go.WideShapes.add_plain]
  obtain ⟨c1, c2⟩ := hc (j / 2) (by omega)
  by_cases hp : j % 2 = 0
  · rw [if_pos hp] at hj
    rw [show off + j = off + j / 2 * 2 by omega, c1]
    exact hj
  · rw [if_neg hp] at hj
    rw [show off + j = off + j / 2 * 2 + 1 by omega, c2]
    exact hj
theorem cells_one (L : List Sp) : ∀ u ∈ cells L, u.oneCell' = true := by
  intro u hu
  unfold cells at hu
  obtain ⟨s, _, hs⟩ := List.mem_flatMap.1 hu
  simp at hs
  rcases hs with rfl | rfl <;> rfl
theorem none_zero {B : Nat} {w : World} {A : Option Addr} {n c : Nat} {L : List Sp} (h : SpansAt B w A n L) (hc : A = none → c = 0) : A = none → n = 0 ∧ c = 0 := by
  intro e
  refine ⟨?_, hc e⟩
  rcases Nat.eq_zero_or_pos n with h0 | h0
  · exact h0
  · obtain ⟨b, off, e', _⟩ := h.2 h0
    rw [e] at e'
    cases e'

theorem stored_at (base g c m : Nat) (K : List Sp) (x y u : Int) (wr W : World) (hK : K.length = m) (hown : wr.ownsRow base 35 2 (.slice (some ⟨g, 0, none⟩) (m + 1) c) (m + 1) (cells (K ++ [(y, x)]))) (hB : base ≤ wr.heap.size) (hb : Below wr.heap.size wr W) :
    (W.setCell ⟨g, m * 2 + 1, none⟩ (.int .i64 u)).ownsRow base 35 2 (.slice (some ⟨g, 0, none⟩) (m + 1) c) (m + 1) (cells (K ++ [(y, u)])) ∧ Below base wr (W.setCell ⟨g, m * 2 + 1, none⟩ (.int .i64 u)) := by
  have h1 := (own_below hown hb).stored (m * 2 + 1) (.int .i64 u)
  have e : (cells (K ++ [(y, x)])).set (m * 2 + 1) (.int .i64 u) = cells (K ++ [(y, u)]) := by
    have el : (cells K).length = m * 2 := by rw [cells_length, hK]
    rw [cells_app, cells_app, List.set_append_right _ _ (by omega), el, show m * 2 + 1 - m * 2 = 1 by omega]
    rfl
  rw [e] at h1
  exact ⟨h1.1, (hb.mono hB).setCell (p := ⟨g, m * 2 + 1, none⟩) (hown.lt g rfl).1 _⟩
theorem bl_d (w : World) (q : Nat) (o : Obj) : Below w.heap.size w ((w.drewN q).alloc o) := (below_drawn (Below.refl _ _) q).alloc (Nat.le_refl _) o
theorem new_d (w : World) (q : Nat) (f t : Int) (ty : TypeId) (j : Nat) (u : Value) (h : [Value.int .i64 f, .int .i64 t][j]? = some u) :
    ((w.drewN q).alloc (.cells #[.int .i64 f, .int .i64 t] ty)).cell? ((⟨w.heap.size, 0, none⟩ : Addr).add j) = some u := by
  match j, h with
  | 0, h =>
    rw [show ((⟨w.heap.size, 0, none⟩ : Addr).add 0) = ⟨w.heap.size, 0, none⟩ from rfl, World.cell?_alloc_at _ _ _ _ (by simp)]
    exact h
  | 1, h =>
    rw [show ((⟨w.heap.size, 0, none⟩ : Addr).add 1) = ⟨w.heap.size, 1, none⟩ from rfl, World.cell?_alloc_at _ _ _ _ (by simp)]
    exact h
/-- The canonical list is handed back, with a bound on its length. -/
def BothRet (P : Int → Bool) (m : Nat) (e : Ending) (w' : World) : Prop := ∃ (A : Option Addr) (n c : Nat), e = .returned (.slice A n c) ∧ SpansAt w'.heap.size w' A n (canon P) ∧ Is (canon P) P ∧ n ≤ m ∧ (A = none → c = 0)

set_option maxHeartbeats 4000000 in
set_option maxRecDepth 100000 in
theorem both_any (h : Int) (hh : h = 0 ∨ h = 1 ∨ h = 2) (La Lb : List Sp) (N M ca cb : Nat) (Aa Ab : Option Addr) (w : World) (hza : SpansAt w.heap.size w Aa N La) (hzb : SpansAt w.heap.size w Ab M Lb) (hN : N ≤ 10000) (hM : M ≤ 10000) (hna : Aa = none → ca = 0) (hnb : Ab = none → cb = 0) :
    Calls Tryz.prog 22 #[.int .i64 h, .slice Aa N ca, .slice Ab M cb] w fun e w' => BothRet (opP h La Lb) (1 + 2 * (N + M)) e w' ∧ Below w.heap.size w w' := by
  obtain ⟨i0, hi, hz0, hz1, hz2⟩ := info_parts info42
  have HLA := Lib.hid hza.1
  have HLB := Lib.hid hzb.1
  have HNA := Lib.hid (none_zero hza hna)
  have HNB := Lib.hid (none_zero hzb hnb)
  have hb0 : Below w.heap.size w (w.alloc (.cells #[] 35)) := (Below.refl _ _).alloc (Nat.le_refl _) _
  have HS1 := Lib.hid (spans_news (hza.below hb0))
  have HO1 := Lib.hid (own_empty w 35 2)
  go_enter Tryz.func22, Tryz.ntmps22
  go_wp2_with (at_builtin; refine wpList_append_opt rfl _ _ 22 rfl w.heap.size 35 i0 (.agg #[.int .i64 0, .int .i64 0]) 2 16 Tryz.underlying22 hi hz0 hz1 hz2 rfl (by decide) _ _ _ rfl HO1.out Aa N ca (cells La) rfl HNA.out ?c0 HS1.out (cells_one _) ?c3 ?c4 ?c5 ?_)
  case c0 => rw [cells_length, HLA.out]
  case c3 => unfold maxLen; omega
  case c4 => omega
  case c5 => simp
  intro v1 w1 hown1 hgrow1
  have hb1 : Below w.heap.size w w1 := Below.grown hb0 hgrow1 (by simp) (fun q hq => by simp [Value.ownBlock] at hq; omega)
  have HS2 := Lib.hid (spans_news (hzb.below hb1))
  have HO2 := Lib.hid hown1
  clear hgrow1 hown1
  go_wp2_with (at_builtin; refine wpList_append_opt rfl _ _ 22 rfl w.heap.size 35 i0 (.agg #[.int .i64 0, .int .i64 0]) 2 16 Tryz.underlying22 hi hz0 hz1 hz2 rfl (by decide) _ _ _ rfl HO2.out Ab M cb (cells Lb) rfl HNB.out ?c0 HS2.out (cells_one _) ?c3 ?c4 ?c5 ?_)
  case c0 => rw [cells_length, HLB.out]
  case c3 => unfold maxLen; omega
  case c4 => omega
  case c5 => exact hb1.size
  intro v2 w2 hown2 hgrow2
  have hb2 : Below w.heap.size w w2 := Below.grown hb1 hgrow2 hb1.size (fun q hq => (HO2.out.lt q hq).1)
  obtain ⟨A2, c2, rfl⟩ : ∃ A2 c2, v2 = .slice A2 (N + M) c2 := by
    rcases hown2.2 with ⟨rfl, h0⟩ | ⟨g, cap, cur, rfl, _⟩
    · exact ⟨none, 0, by rw [show N + M = 0 by omega]⟩
    · exact ⟨_, _, rfl⟩
  have hz2 : SpansAt w2.heap.size w2 A2 (N + M) (La ++ Lb) := spans_of_own (by rw [cells_app]; simpa using hown2)
  have HP := Lib.hid (points_any (La ++ Lb) (N + M) c2 A2 w2 hz2 (by omega))
  clear hown2 hgrow2 hz2
  go_wp2_with (go_at_call 42; ((with_reducible refine (HP.out).mono ?_); rintro e w3 ⟨⟨bp, offp, np, cp, rfl, hip, hcp, hp0⟩, hb3⟩))
  obtain ⟨zs, hzs⟩ : ∃ zs, zs = pts (La ++ Lb) := ⟨_, rfl⟩
  have HIs := Lib.hid (both_is h La Lb)
  have HInv : Hid (∀ k, k ≤ zs.length → EndLe (bothL (opP h La Lb) zs k) (bd zs k) ∧ (bothL (opP h La Lb) zs k).length ≤ k) := Lib.hid fun k hk => by
    subst hzs
    obtain ⟨_, a, _, b⟩ := both_inv (opP h La Lb) (pts (La ++ Lb)) (pts_ok _) (fun k hk d h0 h1 => op_const h La Lb k hk d h0 h1) k hk
    exact ⟨a, b⟩
  have HRng : Hid (∀ k, k < zs.length → 0 ≤ el zs k ∧ el zs k < nx zs k ∧ nx zs k ≤ 1048577) := Lib.hid fun k hk => by
    subst hzs
    exact pt_range (pts_ok _) hk
  have hnp : np ≤ 1 + 2 * (N + M) := by
    have h1 := pts_len (La ++ Lb)
    rw [List.length_append] at h1
    have := hip.1
    have := HLA.out
    have := HLB.out
    omega
  rw [← hzs] at HIs hip
  clear hzs HS1 HS2 HO1 HO2 HP
  have HLZ := Lib.hid hip.1
  have hb3w : Below w.heap.size w w3 := hb2.trans (hb3.mono hb2.size)
  go_loopw [8, 9] (fun v i wr => ∃ (k m cc g : Nat), k ≤ np ∧ i = .int .i64 k ∧ v = .slice (some ⟨g, 0, none⟩) m cc ∧ m = (bothL (opP h La Lb) zs k).length ∧ wr.ownsRow w3.heap.size 35 2 (.slice (some ⟨g, 0, none⟩) m cc) m (cells (bothL (opP h La Lb) zs k)) ∧ Below w3.heap.size w3 wr) (fun _ i _ => np - (intOf i).toNat)
  case atStart => exact ⟨0, 0, 0, w3.heap.size, Nat.zero_le _, rfl, rfl, rfl, own_empty _ _ _, (Below.refl _ _).alloc (Nat.le_refl _) _⟩
  case round =>
    obtain ⟨k, m, cc, g, hk, rfl, rfl, hm, hown, hb⟩ := hrel
    have hbz := hb.size
    have HM := Lib.hid hm
    clear hm
    by_cases hlt : k < np
    · have hm1 : m ≤ 100000 := by have := (HInv.out k (by have := HLZ.out; omega)).2; have := HM.out; omega
      have hbw : Below w.heap.size w wr := hb3w.trans (hb.mono hb3w.size)
      have HCnt : Hid (Calls Tryz.prog 43 #[.int .i64 h, .slice Aa N ca, .slice Ab M cb, .int .i64 (el zs k)] wr fun e w' => e = .returned (.bool (opP h La Lb (el zs k))) ∧ w' = wr) := Lib.hid
        (counts_any h hh La Lb w.heap.size N ca M cb Aa Ab (el zs k) wr (hza.below hbw) (by omega) (hzb.below hbw) (by omega))
      obtain ⟨bp', offp', ep, hBp, hcp'⟩ := hip.cells hb hlt
      injection ep with ep
      injection ep with ep1 ep2
      subst ep1 ep2
      have hck := hcp' k hlt
      have HRk := Lib.hid (HRng.out k (by have := HLZ.out; omega))
      have HEk := Lib.hid (HInv.out k (by have := HLZ.out; omega)).1
      have hbk : bd zs k = el zs k := by unfold bd; rw [if_pos (by have := HLZ.out; omega)]
      rw [hbk] at HEk
      have HO : Hid (∀ W, Below wr.heap.size wr W → W.ownsRow w3.heap.size 35 2 (.slice (some ⟨g, 0, none⟩) m cc) m (cells (bothL (opP h La Lb) zs k))) := Lib.hid fun W hW => own_below hown hW
      have HLO := Lib.hid (hown.lt g rfl)
      clear hbk
      have hx : k + 1 < np ∨ ¬ (k + 1 < np) := by omega
      rcases hx with hx | hx
      · have hnx : nx zs k = (el zs (k + 1)) := by unfold nx; rw [if_pos (by have := HLZ.out; omega)]
        have hck1 := hcp' (k + 1) hx
        clear hcp' hip
        cases hp : opP h La Lb (el zs k)
        · have HB : Hid (bothL (opP h La Lb) zs (k + 1) = bothL (opP h La Lb) zs k) := Lib.hid (by rw [bothL, if_neg (by rw [hp]; simp)])
          rw [hp] at HCnt
          have HOw := Lib.hid hown
          clear hp hown hza hzb hnx
          go_wp2_with (go_at_call 43; ((with_reducible refine (HCnt.out).mono ?_); rintro e w4 ⟨rfl, rfl⟩))
          go_roundw
          case rel => exact ⟨k + 1, m, cc, g, by omega, by go_num, rfl, by rw [HB.out]; exact HM.out, by rw [HB.out]; exact HOw.out, hb⟩
          case measure => simp [intOf]; omega
        · have HB : Hid (bothL (opP h La Lb) zs (k + 1) = apS (bothL (opP h La Lb) zs k) (el zs k, (el zs (k + 1)))) := Lib.hid (by rw [bothL, if_pos hp, hnx])
          rw [hp] at HCnt
          clear hp hza hzb
          have HBZ := Lib.hid hbz
          have HBB := Lib.hid hb
          rcases List.eq_nil_or_concat (bothL (opP h La Lb) zs k) with hL | ⟨K, x, hL⟩
          · rw [hL] at HB HM hown HO
            obtain rfl : m = 0 := HM.out
            clear hnx hL hown
            go_wp2_with (go_at_call 43; ((with_reducible refine (HCnt.out).mono ?_); rintro e w4 ⟨rfl, rfl⟩))
            go_quiet (fail)
            go_wp2_with (at_builtin; refine wpList_append_own _ rfl _ _ 22 rfl w3.heap.size 35 i0 (.agg #[.int .i64 0, .int .i64 0]) 2 16 Tryz.underlying22 hi hz0 hz1 hz2 rfl (by decide) _ _ _ rfl (HO.out _ (bl_d w4 _ _)) ⟨w4.heap.size, 0, none⟩ 1 1 [.int .i64 (el zs k), .int .i64 (el zs (k + 1))] rfl rfl ?c1 ?c2 ?c3 ?c4 ?c5 ?_)
            case c1 => exact fun j u hj => new_d w4 _ _ _ _ j u hj
            case c2 => intro u hu; simp at hu; rcases hu with rfl | rfl <;> rfl
            case c3 => unfold maxLen; omega
            case c4 => omega
            case c5 => exact Nat.le_trans HBZ.out (bl_d w4 _ _).size
            intro v5 w5 hown5 hgrow5 _
            have hbw5 : Below w3.heap.size w3 w5 := Below.grown (HBB.out.trans ((bl_d w4 _ _).mono HBZ.out)) hgrow5 (Nat.le_trans HBZ.out (bl_d w4 _ _).size) (fun q hq => by simp [Value.ownBlock] at hq; have := HLO.out; omega)
            obtain ⟨g5, c5, rfl⟩ : ∃ g5 c5, v5 = .slice (some ⟨g5, 0, none⟩) (0 + 1) c5 := by
              rcases hown5.2 with ⟨_, h0⟩ | ⟨g, cap, cur, rfl, _⟩
              · omega
              · exact ⟨_, _, rfl⟩
            have HV := Lib.hid hown5
            clear hown5 hgrow5
            go_wp2
            go_roundw
            case rel => exact ⟨k + 1, 1, c5, g5, by omega, by go_num, rfl, by rw [HB.out]; rfl, by rw [HB.out]; exact HV.out, hbw5⟩
            case measure => simp [intOf]; omega
          · rw [List.concat_eq_append] at hL
            rw [hL] at HB HM hown HO HEk
            obtain ⟨j, rfl⟩ : ∃ j, m = j + 1 := ⟨m - 1, by have := HM.out; simp at this; omega⟩
            have HKj : Hid (K.length = j) := Lib.hid (by have := HM.out; simp at this; omega)
            have hxe : x.2 ≤ el zs k := HEk.out x (by simp)
            have HXe := Lib.hid hxe
            have hget : (cells (K ++ [x]))[j * 2 + 1]? = some (.int .i64 x.2) := by
              have e : (cells K).length = j * 2 := by rw [cells_length, HKj.out]
              rw [cells_app, List.getElem?_append_right (by omega), e, show j * 2 + 1 - j * 2 = 1 by omega]
              rfl
            have hcell : wr.cell? ⟨g, j * 2 + 1, none⟩ = some (.int .i64 x.2) := by
              rw [hown.cellAt _ (by omega), hget]
            have hfz : wr.frozen? ⟨g, j * 2 + 1, none⟩ = false := hown.frozenAt _
            have hne : (((j : Int) + 1) == 0) = false := by rw [beq_eq_false_iff_ne]; omega
            have HOw := Lib.hid hown
            by_cases hxx : x.2 = el zs k
            · have HB2 : Hid (bothL (opP h La Lb) zs (k + 1) = K ++ [(x.1, (el zs (k + 1)))]) := Lib.hid (by
                rw [HB.out, apS_snoc, if_neg (by simp only; omega)]
                have := HRk.out.2.1
                rw [show max x.2 (el zs (k + 1)) = (el zs (k + 1)) by rw [← hnx]; omega])
              have hbeq : (x.2 == el zs k) = true := by rw [beq_iff_eq]; exact hxx
              have HXX := Lib.hid hxx
              clear hnx hL hown hget hxe hxx
              go_wp2_with (go_at_call 43; ((with_reducible refine (HCnt.out).mono ?_); rintro e w4 ⟨rfl, rfl⟩))
              go_quiet (fail)
              go_wp2
              go_roundw
              case rel => exact ⟨k + 1, j + 1, cc, g, by omega, by go_num, rfl, by rw [HB2.out, List.length_append, HKj.out]; rfl, by rw [HB2.out]; exact (stored_at w3.heap.size g cc j K x.2 x.1 (el zs (k + 1)) w4 _ HKj.out HOw.out HBZ.out (below_drawn (Below.refl _ _) _)).1, HBB.out.trans (stored_at w3.heap.size g cc j K x.2 x.1 (el zs (k + 1)) w4 _ HKj.out HOw.out HBZ.out (below_drawn (Below.refl _ _) _)).2⟩
              case measure => simp [intOf]; omega
            · have HB2 : Hid (bothL (opP h La Lb) zs (k + 1) = K ++ [x] ++ [(el zs k, (el zs (k + 1)))]) := Lib.hid (by
                rw [HB.out, apS_snoc, if_pos (by simp only; omega)])
              have hbeq : (x.2 == el zs k) = false := by rw [beq_eq_false_iff_ne]; exact hxx
              have HXX := Lib.hid hxx
              clear hnx hL hown hget hxe hxx
              go_wp2_with (go_at_call 43; ((with_reducible refine (HCnt.out).mono ?_); rintro e w4 ⟨rfl, rfl⟩))
              go_quiet (fail)
              go_wp2_with (at_builtin; refine wpList_append_own _ rfl _ _ 22 rfl w3.heap.size 35 i0 (.agg #[.int .i64 0, .int .i64 0]) 2 16 Tryz.underlying22 hi hz0 hz1 hz2 rfl (by decide) _ _ _ rfl (HO.out _ (bl_d w4 _ _)) ⟨w4.heap.size, 0, none⟩ 1 1 [.int .i64 (el zs k), .int .i64 (el zs (k + 1))] rfl rfl ?c1 ?c2 ?c3 ?c4 ?c5 ?_)
              case c1 => exact fun j u hj => new_d w4 _ _ _ _ j u hj
              case c2 => intro u hu; simp at hu; rcases hu with rfl | rfl <;> rfl
              case c3 => unfold maxLen; omega
              case c4 => omega
              case c5 => exact Nat.le_trans HBZ.out (bl_d w4 _ _).size
              intro v5 w5 hown5 hgrow5 _
              have hbw5 : Below w3.heap.size w3 w5 := Below.grown (HBB.out.trans ((bl_d w4 _ _).mono HBZ.out)) hgrow5 (Nat.le_trans HBZ.out (bl_d w4 _ _).size) (fun q hq => by simp [Value.ownBlock] at hq; have := HLO.out; omega)
              obtain ⟨g5, c5, rfl⟩ : ∃ g5 c5, v5 = .slice (some ⟨g5, 0, none⟩) (j + 1 + 1) c5 := by
                rcases hown5.2 with ⟨_, h0⟩ | ⟨g, cap, cur, rfl, _⟩
                · omega
                · exact ⟨_, _, rfl⟩
              have HV := Lib.hid hown5
              clear hown5 hgrow5
              go_wp2
              go_roundw
              case rel => exact ⟨k + 1, j + 2, c5, g5, by omega, by go_num, rfl, by rw [HB2.out, List.length_append, List.length_append, HKj.out]; rfl, by rw [HB2.out, cells_app (K ++ [x])]; exact HV.out, hbw5⟩
              case measure => simp [intOf]; omega
      · have hnx : nx zs k = 1048577 := by unfold nx; rw [if_neg (by have := HLZ.out; omega)]
        clear hcp' hip
        cases hp : opP h La Lb (el zs k)
        · have HB : Hid (bothL (opP h La Lb) zs (k + 1) = bothL (opP h La Lb) zs k) := Lib.hid (by rw [bothL, if_neg (by rw [hp]; simp)])
          rw [hp] at HCnt
          have HOw := Lib.hid hown
          clear hp hown hza hzb hnx
          go_wp2_with (go_at_call 43; ((with_reducible refine (HCnt.out).mono ?_); rintro e w4 ⟨rfl, rfl⟩))
          go_roundw
          case rel => exact ⟨k + 1, m, cc, g, by omega, by go_num, rfl, by rw [HB.out]; exact HM.out, by rw [HB.out]; exact HOw.out, hb⟩
          case measure => simp [intOf]; omega
        · have HB : Hid (bothL (opP h La Lb) zs (k + 1) = apS (bothL (opP h La Lb) zs k) (el zs k, 1048577)) := Lib.hid (by rw [bothL, if_pos hp, hnx])
          rw [hp] at HCnt
          clear hp hza hzb
          have HBZ := Lib.hid hbz
          have HBB := Lib.hid hb
          rcases List.eq_nil_or_concat (bothL (opP h La Lb) zs k) with hL | ⟨K, x, hL⟩
          · rw [hL] at HB HM hown HO
            obtain rfl : m = 0 := HM.out
            clear hnx hL hown
            go_wp2_with (go_at_call 43; ((with_reducible refine (HCnt.out).mono ?_); rintro e w4 ⟨rfl, rfl⟩))
            go_quiet (fail)
            go_wp2_with (at_builtin; refine wpList_append_own _ rfl _ _ 22 rfl w3.heap.size 35 i0 (.agg #[.int .i64 0, .int .i64 0]) 2 16 Tryz.underlying22 hi hz0 hz1 hz2 rfl (by decide) _ _ _ rfl (HO.out _ (bl_d w4 _ _)) ⟨w4.heap.size, 0, none⟩ 1 1 [.int .i64 (el zs k), .int .i64 1048577] rfl rfl ?c1 ?c2 ?c3 ?c4 ?c5 ?_)
            case c1 => exact fun j u hj => new_d w4 _ _ _ _ j u hj
            case c2 => intro u hu; simp at hu; rcases hu with rfl | rfl <;> rfl
            case c3 => unfold maxLen; omega
            case c4 => omega
            case c5 => exact Nat.le_trans HBZ.out (bl_d w4 _ _).size
            intro v5 w5 hown5 hgrow5 _
            have hbw5 : Below w3.heap.size w3 w5 := Below.grown (HBB.out.trans ((bl_d w4 _ _).mono HBZ.out)) hgrow5 (Nat.le_trans HBZ.out (bl_d w4 _ _).size) (fun q hq => by simp [Value.ownBlock] at hq; have := HLO.out; omega)
            obtain ⟨g5, c5, rfl⟩ : ∃ g5 c5, v5 = .slice (some ⟨g5, 0, none⟩) (0 + 1) c5 := by
              rcases hown5.2 with ⟨_, h0⟩ | ⟨g, cap, cur, rfl, _⟩
              · omega
              · exact ⟨_, _, rfl⟩
            have HV := Lib.hid hown5
            clear hown5 hgrow5
            go_wp2
            go_roundw
            case rel => exact ⟨k + 1, 1, c5, g5, by omega, by go_num, rfl, by rw [HB.out]; rfl, by rw [HB.out]; exact HV.out, hbw5⟩
            case measure => simp [intOf]; omega
          · rw [List.concat_eq_append] at hL
            rw [hL] at HB HM hown HO HEk
            obtain ⟨j, rfl⟩ : ∃ j, m = j + 1 := ⟨m - 1, by have := HM.out; simp at this; omega⟩
            have HKj : Hid (K.length = j) := Lib.hid (by have := HM.out; simp at this; omega)
            have hxe : x.2 ≤ el zs k := HEk.out x (by simp)
            have HXe := Lib.hid hxe
            have hget : (cells (K ++ [x]))[j * 2 + 1]? = some (.int .i64 x.2) := by
              have e : (cells K).length = j * 2 := by rw [cells_length, HKj.out]
              rw [cells_app, List.getElem?_append_right (by omega), e, show j * 2 + 1 - j * 2 = 1 by omega]
              rfl
            have hcell : wr.cell? ⟨g, j * 2 + 1, none⟩ = some (.int .i64 x.2) := by
              rw [hown.cellAt _ (by omega), hget]
            have hfz : wr.frozen? ⟨g, j * 2 + 1, none⟩ = false := hown.frozenAt _
            have hne : (((j : Int) + 1) == 0) = false := by rw [beq_eq_false_iff_ne]; omega
            have HOw := Lib.hid hown
            by_cases hxx : x.2 = el zs k
            · have HB2 : Hid (bothL (opP h La Lb) zs (k + 1) = K ++ [(x.1, 1048577)]) := Lib.hid (by
                rw [HB.out, apS_snoc, if_neg (by simp only; omega)]
                have := HRk.out.2.1
                rw [show max x.2 1048577 = 1048577 by rw [← hnx]; omega])
              have hbeq : (x.2 == el zs k) = true := by rw [beq_iff_eq]; exact hxx
              have HXX := Lib.hid hxx
              clear hnx hL hown hget hxe hxx
              go_wp2_with (go_at_call 43; ((with_reducible refine (HCnt.out).mono ?_); rintro e w4 ⟨rfl, rfl⟩))
              go_quiet (fail)
              go_wp2
              go_roundw
              case rel => exact ⟨k + 1, j + 1, cc, g, by omega, by go_num, rfl, by rw [HB2.out, List.length_append, HKj.out]; rfl, by rw [HB2.out]; exact (stored_at w3.heap.size g cc j K x.2 x.1 1048577 w4 _ HKj.out HOw.out HBZ.out (below_drawn (Below.refl _ _) _)).1, HBB.out.trans (stored_at w3.heap.size g cc j K x.2 x.1 1048577 w4 _ HKj.out HOw.out HBZ.out (below_drawn (Below.refl _ _) _)).2⟩
              case measure => simp [intOf]; omega
            · have HB2 : Hid (bothL (opP h La Lb) zs (k + 1) = K ++ [x] ++ [(el zs k, 1048577)]) := Lib.hid (by
                rw [HB.out, apS_snoc, if_pos (by simp only; omega)])
              have hbeq : (x.2 == el zs k) = false := by rw [beq_eq_false_iff_ne]; exact hxx
              have HXX := Lib.hid hxx
              clear hnx hL hown hget hxe hxx
              go_wp2_with (go_at_call 43; ((with_reducible refine (HCnt.out).mono ?_); rintro e w4 ⟨rfl, rfl⟩))
              go_quiet (fail)
              go_wp2_with (at_builtin; refine wpList_append_own _ rfl _ _ 22 rfl w3.heap.size 35 i0 (.agg #[.int .i64 0, .int .i64 0]) 2 16 Tryz.underlying22 hi hz0 hz1 hz2 rfl (by decide) _ _ _ rfl (HO.out _ (bl_d w4 _ _)) ⟨w4.heap.size, 0, none⟩ 1 1 [.int .i64 (el zs k), .int .i64 1048577] rfl rfl ?c1 ?c2 ?c3 ?c4 ?c5 ?_)
              case c1 => exact fun j u hj => new_d w4 _ _ _ _ j u hj
              case c2 => intro u hu; simp at hu; rcases hu with rfl | rfl <;> rfl
              case c3 => unfold maxLen; omega
              case c4 => omega
              case c5 => exact Nat.le_trans HBZ.out (bl_d w4 _ _).size
              intro v5 w5 hown5 hgrow5 _
              have hbw5 : Below w3.heap.size w3 w5 := Below.grown (HBB.out.trans ((bl_d w4 _ _).mono HBZ.out)) hgrow5 (Nat.le_trans HBZ.out (bl_d w4 _ _).size) (fun q hq => by simp [Value.ownBlock] at hq; have := HLO.out; omega)
              obtain ⟨g5, c5, rfl⟩ : ∃ g5 c5, v5 = .slice (some ⟨g5, 0, none⟩) (j + 1 + 1) c5 := by
                rcases hown5.2 with ⟨_, h0⟩ | ⟨g, cap, cur, rfl, _⟩
                · omega
                · exact ⟨_, _, rfl⟩
              have HV := Lib.hid hown5
              clear hown5 hgrow5
              go_wp2
              go_roundw
              case rel => exact ⟨k + 1, j + 2, c5, g5, by omega, by go_num, rfl, by rw [HB2.out, List.length_append, List.length_append, HKj.out]; rfl, by rw [HB2.out, cells_app (K ++ [x])]; exact HV.out, hbw5⟩
              case measure => simp [intOf]; omega
    · obtain rfl : k = np := by omega
      have e : bothL (opP h La Lb) zs k = canon (opP h La Lb) := by rw [← HLZ.out]; exact canon_is HIs.out
      rw [e] at HM hown
      have hC : Is (canon (opP h La Lb)) (opP h La Lb) := by rw [← canon_is HIs.out]; exact HIs.out
      have hml : m ≤ 1 + 2 * (N + M) := by have := (HInv.out k (by have := HLZ.out; omega)).2; rw [e] at this; have := HM.out; omega
      have HSp := Lib.hid (spans_of_own hown)
      clear e hown hza hzb hip
      go_wp2
      go_ret
      exact ⟨⟨some ⟨g, 0, none⟩, m, cc, rfl, HSp.out, hC, hml, fun h => by cases h⟩, hb3w.trans (hb.mono hb3w.size)⟩
end Go.Proofs.YtplphinaeikpmaaGreatDoor
