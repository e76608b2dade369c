/-
  The contracts of the reference's Find, of Count and Equal.
-/
import Derived.Test.YtphehcbjegfifaaFind
namespace Go.Proofs.Ytphehcbjegfifaa
open Go.RowKit (wrap32 wrap64 intOf Hid Below)
open Occ

set_option maxHeartbeats 2000000 in
theorem reffind_any (L P : List Str) (B n m c d : Nat) (A D : Option Addr) (w : World) (hl : Slc B w A n c (sv L)) (hp : Slc B w D m d (sv P)) :
    Calls Try.prog 16 #[.slice A n c, .slice D m d] w fun e w' => NumsRet w.heap.size (occ L P 0) e w' ∧ Below w.heap.size w w' := by
  obtain ⟨i0, hi, hz0, hz1, hz2⟩ := info_parts info_int
  have hL := hl.1.1
  have hP := hp.1.1
  rw [sv_len] at hL hP
  have HOw := Lib.hid (own_empty w 3 1)
  have hb0 := alloc_below w (.cells #[] 3)
  by_cases hm0 : 0 < m
  · have HNE : Hid (P ≠ []) := Lib.hid (by rintro rfl; simp at hP; omega)
    have hm' : ((m : Int) == 0) = false := by rw [beq_eq_false_iff_ne]; omega
    have HE : Hid (∀ W (i : Nat), Below w.heap.size w W → i ≤ n → Calls Try.prog 20 #[.slice A n c, .slice D m d, .int .i64 (i : Int)] W fun e w' => e = .returned (.bool (stands L P i)) ∧ ∃ q, w' = W.drewN q) := Lib.hid fun W i hW h =>
      stands_any L P B n m c d i A D W (hl.below hW) (hp.below hW) hm0 (by have := hl.2.2.2.1; omega)
    have HLen := Lib.hid (show (occ L P 0).length ≤ n by rw [← hL]; exact occ_len L P)
    have HLn := Lib.hid hL
    have HPn := Lib.hid hP
    have hnc := hl.2.1
    have hc := hl.2.2.1
    have hn := hl.2.2.2.1
    have hm := hp.2.2.2.1
    clear hl hp hL hP
    go_enter Try.func16, Try.ntmps16
    go_wp2
    go_loopw [5, 6] (fun v i wr => ∃ (k cc q : Nat) (Av : Option Addr) (K : List Nat), k ≤ n ∧ i = .int .i64 k ∧ v = .slice Av q cc ∧ q = K.length ∧ occ L P 0 = K ++ occ L P k ∧ wr.ownsRow w.heap.size 3 1 (.slice Av q cc) q (iv K) ∧ Below w.heap.size w wr) (fun _ i _ => n - (intOf i).toNat)
    case atStart => exact ⟨0, 0, 0, some ⟨w.heap.size, 0, none⟩, [], Nat.zero_le _, rfl, rfl, rfl, rfl, HOw.out, hb0⟩
    case round =>
      obtain ⟨k, cc, q, Av, K, hk, rfl, rfl, hq, ho, hown, hb⟩ := hrel
      have HO := Lib.hid ho
      have HQ := Lib.hid hq
      have hqn : q ≤ n := by have h1 := congrArg List.length ho; rw [List.length_append] at h1; have := HLen.out; omega
      have hbz := hb.size
      clear ho hq
      by_cases hlt : k < n
      · have hcall := HE.out wr k hb hk
        cases hs : stands L P k with
        | true =>
          have HS := Lib.hid hs
          have hkm : k + m ≤ n := by have := stands_lt hs; have := HLn.out; have := HPn.out; omega
          rw [hs] at hcall
          have HOc := Lib.hid (occ_yes HNE.out hs)
          have HC := Lib.hid hcall
          have HW := Lib.hid (show ∀ W, Below wr.heap.size wr W → W.ownsRow w.heap.size 3 1 (.slice Av q cc) q (iv K) from fun W h => own_below hown h)
          have HLt := Lib.hid hown.lt
          clear hs hcall hown
          go_wp2_with fail
          with_reducible refine (HC.out).mono ?_
          rintro e w1 ⟨rfl, hq1⟩
          have hb1 := drew_below hq1
          have hb1z := hb1.size
          have HW1 := Lib.hid (HW.out _ (hb1.trans ((alloc_below w1 (.cells #[.int .i64 (k : Int)] 3)).mono hb1.size)))
          clear hq1
          go_wp2_with (at_builtin; refine wpList_append_own _ rfl _ _ 29 rfl w.heap.size 3 i0 (.int .i64 0) 1 8 Try.underlying29 hi hz0 hz1 hz2 rfl (by decide) _ _ _ rfl HW1.out ⟨w1.heap.size, 0, none⟩ 1 1 [.int .i64 (k : Int)] rfl rfl ?c1 ?c2 ?c3 ?c4 ?c5 ?_)
          case c1 => exact fun j u hj => new_one w1 _ _ j u hj
          case c2 => intro u hu; simp at hu; subst hu; rfl
          case c3 => unfold maxLen; omega
          case c4 => omega
          case c5 => simp; omega
          intro v' w2 hown' hgrow _
          have hbw : Below w.heap.size w w2 := Below.grown (hb.trans ((hb1.trans ((alloc_below w1 (.cells #[.int .i64 (k : Int)] 3)).mono hb1.size)).mono hbz)) hgrow (by simp; omega) (fun k hk => (HLt.out k hk).1)
          obtain ⟨A2, c2, rfl, _⟩ := own_slice hown'
          have HV := Lib.hid hown'
          clear hown' hgrow
          go_wp2
          go_roundw
          case rel => exact ⟨k + m, c2, q + 1, A2, K ++ [k], by omega, by go_num, rfl, by rw [List.length_append, ← HQ.out]; rfl, by rw [HO.out, HOc.out, HPn.out]; simp, by rw [iv_app]; exact HV.out, hbw⟩
          case measure => simp [intOf]; omega
        | false =>
          rw [hs] at hcall
          have HOc := Lib.hid (occ_no HNE.out hs)
          have HC := Lib.hid hcall
          have HW := Lib.hid (show ∀ W, Below wr.heap.size wr W → W.ownsRow w.heap.size 3 1 (.slice Av q cc) q (iv K) from fun W h => own_below hown h)
          clear hs hcall hown
          go_wp2_with fail
          with_reducible refine (HC.out).mono ?_
          rintro e w1 ⟨rfl, hq1⟩
          have hb1 := drew_below hq1
          have HW1 := Lib.hid (HW.out _ hb1)
          clear hq1
          go_wp2
          go_roundw
          case rel => exact ⟨k + 1, cc, q, Av, K, by omega, by go_num, rfl, HQ.out, by rw [HO.out, HOc.out], HW1.out, hb.trans (hb1.mono hbz)⟩
          case measure => simp [intOf]; omega
      · have HOc := Lib.hid (occ_far (l := L) HNE.out (i := k) (by have := HLn.out; have := HPn.out; omega))
        have HW := Lib.hid hown
        obtain ⟨_, _, he, h1, h2⟩ := own_slice hown
        have h3 : q ≤ cc ∧ cc ≤ 9223372036854775807 := by injection he with _ _ h3; subst h3; exact ⟨h1, h2⟩
        clear hown he h1 h2
        go_wp2
        go_ret
        have e1 : occ L P 0 = K := by rw [HO.out, HOc.out, List.append_nil]
        exact ⟨⟨Av, q, cc, rfl, by rw [e1]; exact HQ.out, h3.1, h3.2, by rw [e1]; exact HW.out⟩, hb⟩
  · obtain rfl : m = 0 := by omega
    have HP : Hid (P = []) := Lib.hid (List.eq_nil_of_length_eq_zero hP)
    clear hl hp hL hP
    go_enter Try.func16, Try.ntmps16
    go_wp2
    go_ret
    have e1 : occ L P 0 = [] := by rw [HP.out, occ_nil]
    exact ⟨⟨some ⟨w.heap.size, 0, none⟩, 0, 0, rfl, by rw [e1]; rfl, by omega, by omega, by rw [e1]; exact HOw.out⟩, hb0⟩

theorem count_any (L P : List Str) (B n m c d : Nat) (A D : Option Addr) (w : World) (hl : Slc B w A n c (sv L)) (hp : Slc B w D m d (sv P)) :
    Calls Try.prog 17 #[.slice A n c, .slice D m d] w fun e w' => e = .returned (.int .i64 ((occ L P 0).length : Nat)) ∧ Below w.heap.size w w' := by
  have HF := Lib.hid (findall_any L P B n m c d A D w hl hp)
  obtain ⟨K, hK⟩ : ∃ K, K = occ L P 0 := ⟨_, rfl⟩
  rw [← hK] at HF ⊢
  clear hl hp hK
  go_enter Try.func17, Try.ntmps17
  go_wp2_with (go_at_call 15; ((with_reducible refine (HF.out).mono ?_); rintro e w1 ⟨⟨A1, n1, c1, rfl, hn1, _, _, _⟩, hb1⟩; have HN := Lib.hid hn1; clear hn1))
  go_ret
  exact ⟨ret_int (by rw [HN.out]), hb1⟩
theorem weq_any (La Lb : List Str) (B N M ca cb : Nat) (Aa Ab : Option Addr) (w : World) (hza : Slc B w Aa N ca (sv La)) (hzb : Slc B w Ab M cb (sv Lb)) :
    Calls Try.prog 18 #[.slice Aa N ca, .slice Ab M cb] w fun e w' => e = .returned (.bool (decide (La = Lb))) ∧ ∃ q, w' = w.drewN q := by
  have HF := Lib.hid (equal_any La Lb B N M ca cb Aa Ab w hza.1 hzb.1 (by have := hza.2.2.2.1; omega) (by have := hzb.2.2.2.1; omega) hza.2.2.2.2)
  clear hza hzb
  go_enter Try.func18, Try.ntmps18
  go_wp2_with (go_at_call 28; ((with_reducible refine (HF.out).mono ?_); rintro e w1 ⟨rfl, hq⟩))
  go_ret
  exact ⟨rfl, hq⟩
end Go.Proofs.Ytphehcbjegfifaa
