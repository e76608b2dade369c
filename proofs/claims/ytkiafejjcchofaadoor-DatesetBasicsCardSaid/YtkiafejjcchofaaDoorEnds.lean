/-
  The contract of the reference's Ends.
-/
import Derived.Test.YtkiafejjcchofaaDoorRefE
import Derived.Maps.AppendAt
namespace Go.Proofs.YtkiafejjcchofaaDoor
open Go.RowKit (wrap32 wrap64 intOf Hid Below)
open Spans

/-- The row of a value lies in another block than the spans. -/
def Apart (A : Option Addr) (n : Nat) (v : Value) : Prop := ∀ q, v.ownBlock = some q → ∀ b off, A = some ⟨b, off, none⟩ → 0 < n → q ≠ b
theorem SpansAt.grown {B : Nat} {w w' : World} {A : Option Addr} {n : Nat} {L : List Sp} {v : Value} (h : SpansAt B w A n L) (hg : w.grownBy w' v.ownBlock) (hB : B ≤ w.heap.size) (ha : Apart A n v) : SpansAt B w' A n L :=
  ⟨h.1, fun hn => by
    obtain ⟨b, off, e, hlt, hc⟩ := h.2 hn
    have hne : some b ≠ v.ownBlock := fun hq => ha b hq.symm b off e hn rfl
    refine ⟨b, off, e, hlt, fun k hk => ?_⟩
    have hbl := hg.block b (by omega) hne
    exact ⟨(World.cell?_of_block (a := ⟨b, off + k * 2, none⟩) hbl).trans (hc k hk).1, (World.cell?_of_block (a := ⟨b, off + k * 2 + 1, none⟩) hbl).trans (hc k hk).2⟩⟩
theorem apart_next {B s : Nat} {w : World} {A : Option Addr} {n : Nat} {L : List Sp} {v v' : Value} (h : SpansAt B w A n L) (ha : Apart A n v) (hat : v'.ownBlock = v.ownBlock ∨ v'.ownBlock = some s) (hs : B ≤ s) : Apart A n v' := by
  intro q hq b off e hn
  rcases hat with hat | hat
  · exact ha q (by rw [← hat]; exact hq) b off e hn
  · obtain ⟨b', off', e', hlt, _⟩ := h.2 hn
    rw [e] at e'
    cases e'
    rw [hat] at hq
    cases hq
    omega

set_option maxHeartbeats 4000000 in
set_option maxRecDepth 100000 in
theorem ends_any (La : List Sp) (N ca : Nat) (Aa : Option Addr) (w : World) (hza : SpansAt w.heap.size w Aa N La) (hN : N ≤ 5000) (hna : Aa = none → ca = 0) :
    Calls Tryd.prog 22 #[.slice Aa N ca] w fun e w' => IntsRet (endsS (canon (memB La))) e w' ∧ Below w.heap.size w w' := by
  obtain ⟨i0, hi, hz0, hz1, hz2⟩ := info_parts info3
  have hb0 : Below w.heap.size w (w.alloc (.cells #[] 3)) := (Below.refl _ _).alloc (Nat.le_refl _) _
  have HOf := Lib.hid (of_c La N ca Aa _ ((hza.below hb0).mono hb0.size) (by omega) hna)
  have HOw := Lib.hid (own_empty w 3 1)
  have HNew := Lib.hid (heap_alloc_new w (.cells #[] 3))
  clear hza
  obtain ⟨R, hR⟩ : ∃ R, R = canon (memB La) := ⟨_, rfl⟩
  rw [← hR]
  have HRd := Lib.hid hR
  clear hR
  go_enter Tryd.func22, Tryd.ntmps22
  go_wp2_with (go_at_call 15; ((with_reducible refine (HOf.out).mono ?_); rintro e w1 ⟨⟨A1, n1, c1, rfl, z1, i1, l1, x1⟩, hb1⟩))
  rw [← HRd.out] at z1 i1
  have HL := Lib.hid z1.1
  have HZ1 := Lib.hid z1
  have hb01 : Below w.heap.size w w1 := hb0.trans (hb1.mono hb0.size)
  have HOw1 := Lib.hid (own_below HOw.out hb1)
  have hb01z := hb01.size
  have HAp : Hid (Apart A1 n1 (.slice (some ⟨w.heap.size, 0, none⟩) 0 0)) := Lib.hid (by
    intro q hq b off e hn
    simp [Value.ownBlock] at hq
    subst hq
    rintro rfl
    obtain ⟨b', off', e', _, hc⟩ := z1.2 hn
    rw [e] at e'
    cases e'
    have h1 := (hc 0 hn).1
    have h2 : w1.heap[w.heap.size]? = some (.cells #[] 3) := (hb1.block w.heap.size (by simp)).trans HNew.out
    simp [World.cell?, h2] at h1)
  clear HOf i1 z1
  go_loopw [3, 5] (fun v i wr => ∃ (k m cc : Nat) (Av : Option Addr), k ≤ n1 ∧ i = .int .i64 k ∧ v = .slice Av m cc ∧ m = (endsS (R.take k)).length ∧ wr.ownsRow w.heap.size 3 1 (.slice Av m cc) m (icells (endsS (R.take k))) ∧ Below w.heap.size w wr ∧ w1.heap.size ≤ wr.heap.size ∧ SpansAt w1.heap.size wr A1 n1 R ∧ Apart A1 n1 (.slice Av m cc)) (fun _ i _ => n1 - (intOf i).toNat)
  case atStart => exact ⟨0, 0, 0, some ⟨w.heap.size, 0, none⟩, Nat.zero_le _, rfl, rfl, rfl, HOw1.out, hb01, Nat.le_refl _, HZ1.out, HAp.out⟩
  case round =>
    obtain ⟨k, m, cc, Av, hk, rfl, rfl, hm, hown, hb, hsz, hsp, hap⟩ := hrel
    have hbz := hb.size
    have HM := Lib.hid hm
    have HSP := Lib.hid hsp
    have HAP := Lib.hid hap
    have hm1 : m ≤ 4000000 := by
      have h1 := endsS_len (R.take k)
      rw [List.length_take] at h1
      have := HL.out
      omega
    clear hm hap
    by_cases hlt : k < n1
    · obtain ⟨b, off, hA, hB, h1, h2⟩ := hsp.cells (Below.refl _ _) hlt
      subst hA
      have hm2 : m + 2 ≤ 4000002 := by omega
      have hstep := endsS_step R k (by have := HL.out; omega)
      have HO : Hid (∀ W, Below wr.heap.size wr W → W.ownsRow w.heap.size 3 1 (.slice Av m cc) m (icells (endsS (R.take k)))) := Lib.hid fun W h => own_below hown h
      have HLO := Lib.hid hown.lt
      have hb4 : ∀ o, Below wr.heap.size wr (wr.alloc o) := fun o => (Below.refl _ _).alloc (Nat.le_refl _) o
      clear hown hsp
      have hx : to R k ≤ 1048576 ∨ 1048576 < to R k := by omega
      rcases hx with hx | hx
      · have he : endsS (R.take (k + 1)) = endsS (R.take k) ++ [fr R k] ++ [to R k] := by
          rw [hstep, endOf, if_pos hx]; simp
        have HE := Lib.hid he
        clear he hstep
        go_wp2_with (at_builtin; refine wpList_append_own_at _ rfl _ _ 33 rfl w.heap.size 3 i0 (.int .i64 0) 1 8 Tryd.underlying33 hi hz0 hz1 hz2 rfl (by decide) _ _ _ rfl (HO.out _ (hb4 _)) ⟨wr.heap.size, 0, none⟩ 1 1 [.int .i64 (fr R k)] rfl rfl ?c1 ?c2 ?c3 ?c4 ?c5 ?_)
        case c1 => exact fun j u hj => new_one' wr _ _ j u hj
        case c2 => intro u hu; simp at hu; subst hu; rfl
        case c3 => unfold maxLen; omega
        case c4 => omega
        case c5 => simp; omega
        intro v' w2 hown' hgrow _ hat
        have hbw : Below w.heap.size w w2 := Below.grown (hb.trans ((hb4 _).mono hbz)) hgrow (by simp; omega) (fun k hk => (HLO.out k hk).1)
        have hsp2 : SpansAt w1.heap.size w2 (some ⟨b, off, none⟩) n1 R := SpansAt.grown (HSP.out.below ((hb4 _).mono hsz)) hgrow (by simp; omega) HAP.out
        have hap2 := apart_next HSP.out HAP.out hat (by omega)
        have hsz2 : w1.heap.size ≤ w2.heap.size := Nat.le_trans (Nat.le_trans hsz (hb4 _).size) hgrow.size
        obtain ⟨A2, c2, rfl⟩ := own_slice hown'
        have hloc : w2.cell? ⟨b, off + k * 2 + 1, none⟩ = some (.int .i64 (to R k)) := by
          obtain ⟨b', off', e', _, _, h4⟩ := hsp2.cells (Below.refl _ _) hlt
          cases e'
          exact h4
        have HO2 : Hid (∀ W, Below w2.heap.size w2 W → W.ownsRow w.heap.size 3 1 (.slice A2 (m + 1) c2) (m + 1) (icells (endsS (R.take k)) ++ [.int .i64 (fr R k)])) := Lib.hid fun W h => own_below hown' h
        have HLO2 := Lib.hid hown'.lt
        have hbwz := hbw.size
        have HSP2 := Lib.hid hsp2
        have HAP2 := Lib.hid hap2
        have hb5 : ∀ o, Below w2.heap.size w2 (w2.alloc o) := fun o => (Below.refl _ _).alloc (Nat.le_refl _) o
        clear hgrow hown' hsp2 hap2 hat
        go_wp2_with (at_builtin; refine wpList_append_own_at _ rfl _ _ 33 rfl w.heap.size 3 i0 (.int .i64 0) 1 8 Tryd.underlying33 hi hz0 hz1 hz2 rfl (by decide) _ _ _ rfl (HO2.out _ (hb5 _)) ⟨w2.heap.size, 0, none⟩ 1 1 [.int .i64 (to R k)] rfl rfl ?c1 ?c2 ?c3 ?c4 ?c5 ?_)
        case c1 => exact fun j u hj => new_one' w2 _ _ j u hj
        case c2 => intro u hu; simp at hu; subst hu; rfl
        case c3 => unfold maxLen; omega
        case c4 => omega
        case c5 => simp; omega
        intro v' w3 hown' hgrow _ hat
        have hbw3 : Below w.heap.size w w3 := Below.grown (hbw.trans ((hb5 _).mono hbwz)) hgrow (by simp; omega) (fun k hk => (HLO2.out k hk).1)
        have hsp3 : SpansAt w1.heap.size w3 (some ⟨b, off, none⟩) n1 R := SpansAt.grown (HSP2.out.below ((hb5 _).mono hsz2)) hgrow (by simp; omega) HAP2.out
        have hap3 := apart_next HSP2.out HAP2.out hat (by omega)
        have hsz3 : w1.heap.size ≤ w3.heap.size := Nat.le_trans (Nat.le_trans hsz2 (hb5 _).size) hgrow.size
        obtain ⟨A3, c3, rfl⟩ := own_slice hown'
        have HV := Lib.hid hown'
        have HSP3 := Lib.hid hsp3
        have HAP3 := Lib.hid hap3
        clear hgrow hown' hb5 hb4 hsp3 hap3 hat
        go_wp2
        go_roundw
        case rel => exact ⟨k + 1, m + 2, c3, A3, by omega, by go_num, rfl, by rw [HE.out, List.length_append, List.length_append, ← HM.out]; rfl, by rw [HE.out, icells_app, icells_app, List.append_assoc]; exact HV.out, hbw3, hsz3, HSP3.out, HAP3.out⟩
        case measure => simp [intOf]; omega
      · have he : endsS (R.take (k + 1)) = endsS (R.take k) ++ [fr R k] := by
          rw [hstep, endOf, if_neg (by simp only; omega)]
        have HE := Lib.hid he
        clear he hstep
        go_wp2_with (at_builtin; refine wpList_append_own_at _ rfl _ _ 33 rfl w.heap.size 3 i0 (.int .i64 0) 1 8 Tryd.underlying33 hi hz0 hz1 hz2 rfl (by decide) _ _ _ rfl (HO.out _ (hb4 _)) ⟨wr.heap.size, 0, none⟩ 1 1 [.int .i64 (fr R k)] rfl rfl ?c1 ?c2 ?c3 ?c4 ?c5 ?_)
        case c1 => exact fun j u hj => new_one' wr _ _ j u hj
        case c2 => intro u hu; simp at hu; subst hu; rfl
        case c3 => unfold maxLen; omega
        case c4 => omega
        case c5 => simp; omega
        intro v' w2 hown' hgrow _ hat
        have hbw : Below w.heap.size w w2 := Below.grown (hb.trans ((hb4 _).mono hbz)) hgrow (by simp; omega) (fun k hk => (HLO.out k hk).1)
        have hsp2 : SpansAt w1.heap.size w2 (some ⟨b, off, none⟩) n1 R := SpansAt.grown (HSP.out.below ((hb4 _).mono hsz)) hgrow (by simp; omega) HAP.out
        have hap2 := apart_next HSP.out HAP.out hat (by omega)
        have hsz2 : w1.heap.size ≤ w2.heap.size := Nat.le_trans (Nat.le_trans hsz (hb4 _).size) hgrow.size
        obtain ⟨A2, c2, rfl⟩ := own_slice hown'
        have hloc : w2.cell? ⟨b, off + k * 2 + 1, none⟩ = some (.int .i64 (to R k)) := by
          obtain ⟨b', off', e', _, _, h4⟩ := hsp2.cells (Below.refl _ _) hlt
          cases e'
          exact h4
        have HV := Lib.hid hown'
        have HSP2 := Lib.hid hsp2
        have HAP2 := Lib.hid hap2
        clear hgrow hown' hsp2 hap2 hat hb4
        go_wp2
        go_roundw
        case rel => exact ⟨k + 1, m + 1, c2, A2, by omega, by go_num, rfl, by rw [HE.out, List.length_append, ← HM.out]; rfl, by rw [HE.out, icells_app]; exact HV.out, hbw, hsz2, HSP2.out, HAP2.out⟩
        case measure => simp [intOf]; omega
    · obtain rfl : k = n1 := by omega
      have e : R.take k = R := List.take_of_length_le (by have := HL.out; omega)
      rw [e] at hown
      have HI := Lib.hid (ints_of_own hown)
      clear hown hsp
      go_wp2
      go_ret
      exact ⟨⟨Av, m, cc, rfl, HI.out, hm1⟩, hb⟩
end Go.Proofs.YtkiafejjcchofaaDoor
