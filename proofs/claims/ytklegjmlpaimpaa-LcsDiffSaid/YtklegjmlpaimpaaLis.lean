/-
  The contracts of LongestIncreasing and of the reference's Rising.
-/
import Derived.Test.YtklegjmlpaimpaaInc
namespace Go.Proofs.Ytklegjmlpaimpaa
open Go.RowKit (wrap32 wrap64 intOf Hid Below)
open Lcs Rise

/-- A slice of numbers of the call's own. -/
def NumsRet (base : Nat) (K : List Nat) (e : Ending) (w' : World) : Prop := ∃ A n c, e = .returned (.slice A n c) ∧ n = K.length ∧ w'.ownsRow base 3 1 (.slice A n c) n (iv K)
/-- What LongestIncreasing answers. -/
def lis (L : List Int) : List Nat := if 256 < L.length then [] else ris L
theorem own_base {w : World} {base base' n size : Nat} {e : TypeId} {v : Value} {xs : List Value} (h : w.ownsRow base e size v n xs) (hb : base' ≤ base) : w.ownsRow base' e size v n xs :=
  ⟨h.1, h.2.imp id fun ⟨g, cap, cur, k1, k2, k3⟩ => ⟨g, cap, cur, k1, Nat.le_trans hb k2, k3⟩⟩

set_option maxHeartbeats 4000000 in
set_option maxRecDepth 100000 in
theorem lis_any (L : List Int) (n c : Nat) (A : Option Addr) (w : World) (ha : ValsAt w.heap.size w A n (zi L)) (hn0 : n ≤ 8796093022207) :
    Calls Try.prog 24 #[.slice A n c] w fun e w' => NumsRet w.heap.size (lis L) e w' ∧ Below w.heap.size w w' := by
  have hL := ha.1
  rw [zi_len] at hL
  by_cases hbig : 256 < n
  · have HP : Hid (lis L = []) := Lib.hid (by unfold lis; rw [if_pos (by omega)])
    clear ha hL
    go_enter Try.func24, Try.ntmps24
    go_wp2
    go_ret
    exact ⟨⟨none, 0, 0, rfl, by rw [HP.out]; rfl, by rw [HP.out]; exact World.ownsRow_nil _ _ _ _⟩, Below.refl _ _⟩
  · have HP : Hid (lis L = sel L 0 (mx L n)) := Lib.hid (by unfold lis ris; rw [if_neg (by omega), hL])
    obtain ⟨i0, hi, hz0, hz1, hz2⟩ := info_parts info_int
    have HL := Lib.hid hL
    have HI := Lib.hid (inclen_any L n c A w ha (by omega))
    clear ha hL
    go_enter Try.func24, Try.ntmps24
    go_wp2_with (go_at_call 33; ((with_reducible refine (HI.out).mono ?_); rintro e w1 ⟨rfl, hW, hb1⟩))
    have HW := Lib.hid hW
    have hb1z := hb1.size
    clear hW
    go_loop [4, 6, 17] (fun v _ i => ∃ k : Nat, k ≤ n ∧ i = .int .i64 k ∧ v = .int .i64 (mx L k : Nat)) (fun _ _ i => n - (intOf i).toNat)
    case atStart => exact ⟨0, Nat.zero_le _, rfl, rfl⟩
    case round =>
      obtain ⟨k, hk, rfl, rfl⟩ := hrel
      by_cases hlt : k < n
      · have c0 := HW.out.cell k hlt
        have HM := Lib.hid (show mx L (k + 1) = max (mx L k) (R L k) from rfl)
        have h1 := mx_le L k (by have := HL.out; omega)
        have h2 := R_le L k (by have := HL.out; omega)
        by_cases hm : mx L k < R L k
        · go_wp2
          go_round
          case rel => exact ⟨k + 1, by omega, by go_num, by rw [HM.out, Nat.max_eq_right (by omega)]⟩
          case measure => simp [intOf]; omega
        · go_wp2
          go_round
          case rel => exact ⟨k + 1, by omega, by go_num, by rw [HM.out, Nat.max_eq_left (by omega)]⟩
          case measure => simp [intOf]; omega
      · obtain rfl : k = n := by omega
        have hmb := mx_le L k (by have := HL.out; omega)
        have hmb2 : mx L k ≤ 256 := by have := HL.out; omega
        clear hmb
        go_wp2
        go_loopw [4, 7, 8, 9, 27] (fun z v _ _ i wr => ∃ (j l q cc : Nat) (Av : Option Addr) (K : List Nat), j ≤ k ∧ l ≤ 256 ∧ i = .int .i64 j ∧ z = .int .i64 l ∧ v = .slice Av q cc ∧ q = K.length ∧ q ≤ j ∧ sel L 0 (mx L k) = K ++ sel L j l ∧ wr.ownsRow w1.heap.size 3 1 (.slice Av q cc) q (iv K) ∧ Below w1.heap.size w1 wr) (fun _ _ _ _ i _ => k - (intOf i).toNat)
        case atStart => exact ⟨0, mx L k, 0, 0, none, [], Nat.zero_le _, hmb2, rfl, rfl, rfl, rfl, Nat.zero_le _, rfl, World.ownsRow_nil _ _ _ _, Below.refl _ _⟩
        case round =>
          obtain ⟨j, l, q, cc, Av, K, hj, hl, rfl, rfl, rfl, hq, hqj, hs, hown, hb⟩ := hrel
          have HQ := Lib.hid hq
          have HS := Lib.hid hs
          have HO := Lib.hid hown
          have hbz := hb.size
          clear hq hs hown
          by_cases hlt : j < k
          · have c0 := (HW.out.below (hb.mono (Nat.le_refl _))).cell j hlt
            have hp := R_pos L j
            obtain ⟨r, hr⟩ : ∃ r, r = R L j := ⟨_, rfl⟩
            rw [← hr] at c0 hp
            have HR := Lib.hid hr
            clear hr
            by_cases he : r = l
            · subst he
              have HY := Lib.hid (sel_yes (l := L) (i := j) (n := r) (by have := HL.out; omega) HR.out.symm)
              have e1 : ((r : Int) == (r : Int)) = true := by simp
              go_wp2_with (at_builtin; refine wpList_append_own _ rfl _ _ 44 rfl w1.heap.size 3 i0 (.int .i64 0) 1 8 Try.underlying44 hi hz0 hz1 hz2 rfl (by decide) _ _ _ rfl (own_below HO.out (alloc_below _ _)) ⟨wr.heap.size, 0, none⟩ 1 1 [.int .i64 (j : Int)] rfl rfl ?c1 ?c2 ?c3 ?c4 ?c5 ?_)
              case c1 => exact fun a u ha => new_one wr _ _ a u ha
              case c2 => intro u hu; simp at hu; subst hu; rfl
              case c3 => unfold maxLen; omega
              case c4 => omega
              case c5 => simp; omega
              intro v' w2 hown' hgrow _
              have hbw : Below w1.heap.size w1 w2 := Below.grown (hb.trans ((alloc_below wr _).mono hbz)) hgrow (by simp; omega) (fun g hg => (HO.out.lt g hg).1)
              obtain ⟨A2, c2, rfl, _⟩ := own_slice hown'
              have HV := Lib.hid hown'
              clear hown' hgrow
              go_wp2
              go_roundw
              case rel => exact ⟨j + 1, r - 1, q + 1, c2, A2, K ++ [j], by omega, by omega, by go_num, by rw [show ((r : Int) - 1) = ((r - 1 : Nat) : Int) by omega], rfl, by rw [List.length_append, ← HQ.out]; rfl, by omega, by rw [HS.out, HY.out, List.append_assoc]; rfl, by rw [iv_app]; exact HV.out, hbw⟩
              case measure => simp [intOf]; omega
            · have HN := Lib.hid (sel_no (l := L) (i := j) (n := l) (by have := HL.out; omega) (by rw [← HR.out]; exact he))
              have e1 : ((r : Int) == (l : Int)) = false := by rw [beq_eq_false_iff_ne]; omega
              have e2 : ¬ ((r : Int) = (l : Int)) := by omega
              go_wp2
              go_roundw
              case rel => exact ⟨j + 1, l, q, cc, Av, K, by omega, hl, by go_num, rfl, rfl, HQ.out, by omega, by rw [HS.out, HN.out], HO.out, hb⟩
              case measure => simp [intOf]; omega
          · obtain rfl : j = k := by omega
            have HE : Hid (lis L = K) := Lib.hid (by rw [HP.out, HS.out, sel_end L j l (by have := HL.out; omega), List.append_nil])
            go_wp2
            go_ret
            exact ⟨⟨Av, q, cc, rfl, by rw [HE.out]; exact HQ.out, by rw [HE.out]; exact own_base HO.out hb1z⟩, hb1.trans (hb.mono hb1z)⟩
end Go.Proofs.Ytklegjmlpaimpaa
