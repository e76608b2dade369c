/-
  The contract of Pairs.
-/
import Derived.Test.YtklegjmlpaimpaaSl
namespace Go.Proofs.Ytklegjmlpaimpaa
open Go.RowKit (wrap32 wrap64 intOf Hid Below)
open Lcs

theorem info_pair : (Try.prog.info? 29).map (fun i => (i.zero, i.size, i.bytes)) = some (some (.agg #[.int .i64 0, .int .i64 0]), 2, 16) := by kernel_rfl
/-- The cells of a list of pairs. -/
def pv (K : List (Nat × Nat)) : List Value := K.flatMap fun p => [.int .i64 (p.1 : Int), .int .i64 (p.2 : Int)]
theorem pv_len (K : List (Nat × Nat)) : (pv K).length = K.length * 2 := by
  induction K with
  | nil => rfl
  | cons s r ih => simp [pv] at ih ⊢; omega
theorem pv_app (a b : List (Nat × Nat)) : pv (a ++ b) = pv a ++ pv b := by simp [pv]
theorem bl_dr (w : World) (n : Nat) (o : Obj) : Below w.heap.size w ((w.drewN n).alloc o) := (below_drawn (Below.refl _ _) n).alloc (Nat.le_refl _) o
theorem new_two (w : World) (n : Nat) (x y : Value) (ty : TypeId) (j : Nat) (u : Value) (h : [x, y][j]? = some u) :
    ((w.drewN n).alloc (.cells #[x, y] ty)).cell? ((⟨w.heap.size, 0, none⟩ : Addr).add j) = some u := by
  match j, h with
  | 0, h =>
    rw [show ((⟨w.heap.size, 0, none⟩ : Addr).add 0) = ⟨w.heap.size, 0, none⟩ from rfl, World.cell?_alloc_at _ _ _ _ (by simp)]
    exact h
  | 1, h =>
    rw [show ((⟨w.heap.size, 0, none⟩ : Addr).add 1) = ⟨w.heap.size, 1, none⟩ from rfl, World.cell?_alloc_at _ _ _ _ (by simp)]
    exact h
theorem own_mono {w : World} {base base' n size : Nat} {e : TypeId} {v : Value} {xs : List Value} (h : w.ownsRow base e size v n xs) (hb : base' ≤ base) : w.ownsRow base' e size v n xs :=
  ⟨h.1, h.2.imp id fun ⟨g, cap, cur, k1, k2, k3⟩ => ⟨g, cap, cur, k1, Nat.le_trans hb k2, k3⟩⟩
/-- A slice of pairs of the call's own. -/
def PairsRet (base : Nat) (K : List (Nat × Nat)) (e : Ending) (w' : World) : Prop := ∃ A n c, e = .returned (.slice A n c) ∧ n = K.length ∧ w'.ownsRow base 29 2 (.slice A n c) n (pv K)

set_option maxHeartbeats 4000000 in
set_option maxRecDepth 100000 in
theorem pairs_any (La Lb : List Str) (n m c d : Nat) (A D : Option Addr) (w : World) (ha : Sq w A n c La) (hb : Sq w D m d Lb) (hn1 : n ≤ 1000000) (hm1 : m ≤ 1000000) :
    Calls Try.prog 12 #[.slice A n c, .slice D m d] w fun e w' => PairsRet w.heap.size (prl La Lb) e w' ∧ Below w.heap.size w w' := by
  have hLa := ha.len
  have hLb := hb.len
  by_cases hbig : 256 < n ∨ 256 < m
  · have HP : Hid (prl La Lb = []) := Lib.hid (by unfold prl; rw [if_pos (by omega)])
    clear ha hb hLa hLb hn1 hm1
    by_cases h1 : 256 < n
    · clear hbig
      go_enter Try.func12, Try.ntmps12
      go_wp2
      go_ret
      exact ⟨⟨none, 0, 0, rfl, by rw [HP.out]; rfl, by rw [HP.out]; exact World.ownsRow_nil _ _ _ _⟩, Below.refl _ _⟩
    · have h2 : 256 < m := by omega
      clear hbig
      go_enter Try.func12, Try.ntmps12
      go_wp2
      go_ret
      exact ⟨⟨none, 0, 0, rfl, by rw [HP.out]; rfl, by rw [HP.out]; exact World.ownsRow_nil _ _ _ _⟩, Below.refl _ _⟩
  · have hn : n ≤ 256 := by omega
    have hm : m ≤ 256 := by omega
    have HP : Hid (prl La Lb = pairs La Lb 0 0) := Lib.hid (by unfold prl; rw [if_neg (by omega)])
    clear hbig hn1 hm1
    obtain ⟨i0, hi, hz0, hz1, hz2⟩ := info_parts info_pair
    obtain ⟨j0, hj, _, hj1, _⟩ := info_parts info_str
    have HLa := Lib.hid hLa
    have HLb := Lib.hid hLb
    have HA := Lib.hid ha
    have HB := Lib.hid hb
    have HLn := Lib.hid (lengths_any La Lb n m c d A D w ha.1.1 hb.1.1 (by omega) (by omega))
    have hmd := hb.1.2.1
    obtain ⟨ob, hob⟩ : ∃ ob, ob = w.heap.size + 1 + 1 := ⟨_, rfl⟩
    obtain ⟨r0, hr0⟩ : ∃ r0, r0 = w.heap.size + 4 := ⟨_, rfl⟩
    rw [← hob, ← hr0] at HLn
    have HJ := Lib.hid hj
    have HJ1 := Lib.hid hj1
    have HI := Lib.hid hi
    have HZ0 := Lib.hid hz0
    have HZ1 := Lib.hid hz1
    have HZ2 := Lib.hid hz2
    clear ha hb hLa hLb hob hr0 hj hj1 hi hz0 hz1 hz2
    go_enter Try.func12, Try.ntmps12
    go_wp2_with (go_at_call 27; ((with_reducible refine (HLn.out).mono ?_); rintro e w1 ⟨rfl, hT, hb1⟩))
    have HT := Lib.hid hT
    have hb1z := hb1.size
    clear hT
    go_loopw [6, 7, 25] (fun v f i wr => ∃ (k f0 q cc : Nat) (Av : Option Addr) (K : List (Nat × Nat)), k ≤ n ∧ f0 ≤ m ∧ i = .int .i64 k ∧ f = .int .i64 f0 ∧ v = .slice Av q cc ∧ q = K.length ∧ pairs La Lb 0 0 = K ++ pairs La Lb k f0 ∧ wr.ownsRow w1.heap.size 29 2 (.slice Av q cc) q (pv K) ∧ Below w1.heap.size w1 wr) (fun _ _ i _ => n - (intOf i).toNat)
    case atStart => exact ⟨0, 0, 0, 0, none, [], Nat.zero_le _, Nat.zero_le _, rfl, rfl, rfl, rfl, rfl, World.ownsRow_nil _ _ _ _, Below.refl _ _⟩
    case round =>
      obtain ⟨k, f0, q, cc, Av, K, hk, hf0, rfl, rfl, rfl, hq, hp, hown, hb2⟩ := hrel
      have HQ := Lib.hid hq
      have HPr := Lib.hid hp
      have HO := Lib.hid hown
      have hqn : q ≤ 256 := by
        have h1 := congrArg List.length hp
        rw [pairs_len, List.length_append] at h1
        have := T_le La Lb 0 0
        have := HLa.out
        omega
      have hbz := hb2.size
      have hb3 := hb1.trans (hb2.mono hb1z)
      clear hq hp hown
      by_cases hlt : k < n
      · obtain ⟨b, off, rfl, _, hcell⟩ := HA.out.1.1.str hb3 hlt
        have hsl := fun W => run_from (P := Try.prog) (t := 22) Try.underlying22 HJ.out HJ1.out D m d f0 hf0 W
        have HIx := Lib.hid (index_any (Lb.drop f0) (st La k) wr.heap.size (m - f0) (d - f0) (tl D d f0 1) wr (by rw [← sv_drop]; exact ((HB.out.1.1.below hb3).mono hb3.size).tail d f0 hf0 hmd) (by omega))
        cases hix : idx (st La k) (Lb.drop f0) with
        | none =>
          rw [hix, show ixv none = -1 from rfl] at HIx
          have HR := Lib.hid (pairs_none (by have := HLa.out; omega) hix)
          clear hix
          go_wp2_with (go_at_call 28; ((with_reducible refine (HIx.out).mono ?_); rintro e w2 ⟨rfl, rfl⟩))
          go_roundw
          case rel => exact ⟨k + 1, f0, q, cc, Av, K, by omega, hf0, by go_num, rfl, rfl, HQ.out, by rw [HPr.out, HR.out], HO.out, hb2⟩
          case measure => simp [intOf]; omega
        | some k1 =>
          rw [hix, show ixv (some k1) = (k1 : Int) from rfl] at HIx
          obtain ⟨hx1, _, _⟩ := idx_drop hix
          have hx2 : f0 + k1 < m := by have := HLb.out; omega
          have HTr := Lib.hid (HT.out.below hb2)
          have o1 := HTr.out.outer k (by omega)
          have o2 := HTr.out.outer (k + 1) (by omega)
          have v1 := HTr.out.inner (k + 1) (f0 + k1 + 1) (by omega) (by omega)
          have v2 := HTr.out.inner k f0 (by omega) (by omega)
          rw [← Nat.add_assoc] at o2 v1
          have b1 := T_le La Lb (k + 1) (f0 + k1 + 1)
          have b2 := T_le La Lb k f0
          rw [HLa.out] at b1 b2
          have hy := fun ht => pairs_yes (a := La) (b := Lb) (i := k) (f := f0) (by have := HLa.out; omega) hix ht
          have hno := fun ht => pairs_no (a := La) (b := Lb) (i := k) (f := f0) (by have := HLa.out; omega) hix ht
          have HY := Lib.hid hy
          have HNo := Lib.hid hno
          have t1 : ((f0 : Int) + (k1 : Int) + 1).toNat = f0 + k1 + 1 := by omega
          have t2 : 0 ≤ ((f0 : Int) + (k1 : Int) + 1) := by omega
          have t3 : ((k : Int) + 1).toNat = k + 1 := by omega
          have t4 : 0 ≤ ((k : Int) + 1) := by omega
          have g1 : IntKind.i64.wrap ((k : Int) + 1) = (k : Int) + 1 := by rw [IntKind.wrap_i64]; omega
          have g2 : IntKind.i64.wrap ((f0 : Int) + (k1 : Int) + 1) = (f0 : Int) + (k1 : Int) + 1 := by rw [IntKind.wrap_i64]; omega
          clear hix hx1 hy hno
          obtain ⟨x, hx⟩ : ∃ x, x = T La Lb (k + 1) (f0 + k1 + 1) := ⟨_, rfl⟩
          obtain ⟨y, hy⟩ : ∃ y, y = T La Lb k f0 := ⟨_, rfl⟩
          rw [← hx] at HY HNo v1 b1
          rw [← hy] at HY HNo v2 b2
          clear hx hy
          have g3 : IntKind.i64.wrap (1 + (x : Int)) = 1 + (x : Int) := by rw [IntKind.wrap_i64]; omega
          by_cases ht : 1 + x = y
          · have e1 : ((1 : Int) + (x : Int) == (y : Int)) = true := by rw [beq_iff_eq]; omega
            have HYo := Lib.hid (HY.out ht)
            clear ht
            go_wp2_with (go_at_call 28; ((with_reducible refine (HIx.out).mono ?_); rintro e w2 ⟨rfl, rfl⟩))
            go_quiet (fail)
            have hi := HI.out
            have hz0 := HZ0.out
            have hz1 := HZ1.out
            have hz2 := HZ2.out
            go_wp2_with (at_builtin; refine wpList_append_own _ rfl _ _ 25 rfl w1.heap.size 29 i0 (.agg #[.int .i64 0, .int .i64 0]) 2 16 Try.underlying25 hi hz0 hz1 hz2 rfl (by decide) _ _ _ rfl (own_below HO.out (bl_dr wr _ _)) ⟨wr.heap.size, 0, none⟩ 1 1 [.int .i64 (k : Int), .int .i64 ((f0 : Int) + k1)] rfl rfl ?c1 ?c2 ?c3 ?c4 ?c5 ?_)
            case c1 => exact fun j u hj => new_two wr _ _ _ _ j u hj
            case c2 => intro u hu; simp at hu; rcases hu with rfl | rfl <;> rfl
            case c3 => unfold maxLen; omega
            case c4 => omega
            case c5 => simp; omega
            intro v' w3 hown' hgrow _
            have hbw : Below w1.heap.size w1 w3 := Below.grown (hb2.trans ((bl_dr wr _ _).mono hbz)) hgrow (by simp; omega) (fun g hg => (HO.out.lt g hg).1)
            obtain ⟨A2, c2, rfl, _⟩ := own_slice hown'
            have HV := Lib.hid hown'
            clear hown' hgrow hi hz0 hz1 hz2
            go_wp2
            go_roundw
            case rel => exact ⟨k + 1, f0 + k1 + 1, q + 1, c2, A2, K ++ [(k, f0 + k1)], by omega, by omega, by go_num, by go_num, rfl, by rw [List.length_append, ← HQ.out]; rfl, by rw [HPr.out, HYo.out, List.append_assoc]; rfl, by rw [pv_app]; exact HV.out, hbw⟩
            case measure => simp [intOf]; omega
          · have e1 : ((1 : Int) + (x : Int) == (y : Int)) = false := by rw [beq_eq_false_iff_ne]; omega
            have HNn := Lib.hid (HNo.out ht)
            clear ht
            go_wp2_with (go_at_call 28; ((with_reducible refine (HIx.out).mono ?_); rintro e w2 ⟨rfl, rfl⟩))
            go_quiet (fail)
            go_wp2
            go_roundw
            case rel => exact ⟨k + 1, f0, q, cc, Av, K, by omega, hf0, by go_num, rfl, rfl, HQ.out, by rw [HPr.out, HNn.out], own_below HO.out (below_drawn (Below.refl _ _) _), below_drawn hb2 _⟩
            case measure => simp [intOf]; omega
      · obtain rfl : k = n := by omega
        have HE : Hid (pairs La Lb 0 0 = K) := Lib.hid (by rw [HPr.out, pairs_end La Lb k f0 (by have := HLa.out; omega), List.append_nil])
        go_wp2
        go_ret
        exact ⟨⟨Av, q, cc, rfl, by rw [HP.out, HE.out]; exact HQ.out, by rw [HP.out, HE.out]; exact own_mono HO.out hb1z⟩, hb3⟩
end Go.Proofs.Ytklegjmlpaimpaa
