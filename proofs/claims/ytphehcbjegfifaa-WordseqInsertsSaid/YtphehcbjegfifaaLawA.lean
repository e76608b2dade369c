/-
  The walks of the laws WordseqFinds and WordseqOccurrencesDisjoint.
-/
import Derived.Test.YtphehcbjegfifaaAwk
namespace Go.Proofs.Ytphehcbjegfifaa
open Go.RowKit (wrap32 wrap64 intOf Hid Below)
open Occ

theorem rows_two (w : World) (A D : Option Addr) (n c m d : Nat) (L P : List Str) (hl : Sq w A n c L) (hp : Sq w D m d P) :
    RowsAt (w.alloc (.cells #[.slice A n c, .slice D m d] 22)) w.heap.size [(A, n, c, L), (D, m, d, P)] := by
  have hb := alloc_below w (.cells #[.slice A n c, .slice D m d] 22)
  intro k hk
  rcases (by simp at hk; omega : k = 0 ∨ k = 1) with rfl | rfl
  · exact ⟨by rw [World.cell?_alloc_at _ _ _ _ rfl]; rfl, (hl.below hb).1.1, hl.1.2.2.2.1⟩
  · exact ⟨by rw [World.cell?_alloc_at _ _ _ _ rfl]; rfl, (hp.below hb).1.1, hp.1.2.2.2.1⟩
/-- What long says of two sequences. -/
def LongTwo (n m : Nat) (e : Ending) : Prop := ∃ b, e = .returned (.bool b) ∧ (b = false → n ≤ 300 ∧ m ≤ 300)
theorem long_two (w : World) (A D : Option Addr) (n c m d : Nat) (L P : List Str) (hl : Sq w A n c L) (hp : Sq w D m d P) :
    Calls Try.prog 9 #[.slice (some ⟨w.heap.size, 0, none⟩) 2 2] (w.alloc (.cells #[.slice A n c, .slice D m d] 22)) fun e w' => LongTwo n m e ∧ Below w.heap.size w w' :=
  (long_any [(A, n, c, L), (D, m, d, P)] 2 w.heap.size _ rfl (by omega) (rows_two w A D n c m d L P hl hp)).mono fun e w' ⟨⟨b, he, h⟩, hw⟩ =>
    ⟨⟨b, he, fun hb => ⟨h hb 0 (by simp), h hb 1 (by simp)⟩⟩, by rw [← hw]; exact alloc_below w _⟩
theorem rows_three (w : World) (A D E : Option Addr) (n c m d f k : Nat) (L P F : List Str) (hl : Sq w A n c L) (hp : Sq w D m d P) (hf : Sq w E f k F) :
    RowsAt (w.alloc (.cells #[.slice A n c, .slice D m d, .slice E f k] 22)) w.heap.size [(A, n, c, L), (D, m, d, P), (E, f, k, F)] := by
  have hb := alloc_below w (.cells #[.slice A n c, .slice D m d, .slice E f k] 22)
  intro k hk
  rcases (by simp at hk; omega : k = 0 ∨ k = 1 ∨ k = 2) with rfl | rfl | rfl
  · exact ⟨by rw [World.cell?_alloc_at _ _ _ _ rfl]; rfl, (hl.below hb).1.1, hl.1.2.2.2.1⟩
  · exact ⟨by rw [World.cell?_alloc_at _ _ _ _ rfl]; rfl, (hp.below hb).1.1, hp.1.2.2.2.1⟩
  · exact ⟨by rw [World.cell?_alloc_at _ _ _ _ rfl]; rfl, (hf.below hb).1.1, hf.1.2.2.2.1⟩
def LongThree (n m f : Nat) (e : Ending) : Prop := ∃ b, e = .returned (.bool b) ∧ (b = false → n ≤ 300 ∧ m ≤ 300 ∧ f ≤ 300)
theorem long_three (w : World) (A D E : Option Addr) (n c m d f k : Nat) (L P F : List Str) (hl : Sq w A n c L) (hp : Sq w D m d P) (hf : Sq w E f k F) :
    Calls Try.prog 9 #[.slice (some ⟨w.heap.size, 0, none⟩) 3 3] (w.alloc (.cells #[.slice A n c, .slice D m d, .slice E f k] 22)) fun e w' => LongThree n m f e ∧ Below w.heap.size w w' :=
  (long_any [(A, n, c, L), (D, m, d, P), (E, f, k, F)] 3 w.heap.size _ rfl (by omega) (rows_three w A D E n c m d f k L P F hl hp hf)).mono fun e w' ⟨⟨b, he, h⟩, hw⟩ =>
    ⟨⟨b, he, fun hb => ⟨h hb 0 (by simp), h hb 1 (by simp), h hb 2 (by simp)⟩⟩, by rw [← hw]; exact alloc_below w _⟩

theorem nums_q {base : Nat} {K : List Nat} {e : Ending} {w' : World} (h : NumsRet base K e w') (hk : K.length ≤ 1000000) : RetNums K e w' := by
  obtain ⟨A, n, c, he, hn, _, _, ho⟩ := h
  exact ⟨A, n, c, he, ValsAt.of_own ho, by omega⟩
theorem find_c (L P : List Str) (n m c d : Nat) (A D : Option Addr) (w : World) (hl : Sq w A n c L) (hp : Sq w D m d P) (hn : n ≤ 300) :
    Calls Try.prog 15 #[.slice A n c, .slice D m d] w fun e w' => RetNums (occ L P 0) e w' ∧ Below w.heap.size w w' :=
  (findall_any L P _ n m c d A D w hl.1 hp.1).mono fun _ _ ⟨h, hb⟩ => ⟨nums_q h (by have := occ_len L P; have := hl.len; omega), hb⟩
theorem rfind_c (L P : List Str) (n m c d : Nat) (A D : Option Addr) (w : World) (hl : Sq w A n c L) (hp : Sq w D m d P) (hn : n ≤ 300) :
    Calls Try.prog 16 #[.slice A n c, .slice D m d] w fun e w' => RetNums (occ L P 0) e w' ∧ Below w.heap.size w w' :=
  (reffind_any L P _ n m c d A D w hl.1 hp.1).mono fun _ _ ⟨h, hb⟩ => ⟨nums_q h (by have := occ_len L P; have := hl.len; omega), hb⟩

set_option maxHeartbeats 4000000 in
set_option maxRecDepth 100000 in
theorem lawFinds (L P : List Str) (n m c d : Nat) (A D : Option Addr) (w : World) (hl : Sq w A n c L) (hp : Sq w D m d P) :
    Calls Try.prog 4 #[.slice A n c, .slice D m d] w fun e w' => e = .returned (.bool true) ∧ Below w.heap.size w w' := by
  have HLo := Lib.hid (long_two w A D n c m d L P hl hp)
  have HL := Lib.hid hl
  have HP := Lib.hid hp
  obtain ⟨B, hB⟩ : ∃ B, B = decide (L = P) := ⟨_, rfl⟩
  have HEq : Hid (∀ W, Below w.heap.size w W → Calls Try.prog 18 #[.slice A n c, .slice D m d] W fun e w' => e = .returned (.bool B) ∧ Below W.heap.size W w') := Lib.hid fun W h => by
    rw [hB]
    exact (weq_any L P W.heap.size n m c d A D W (HL.out.below h).1 (HP.out.below h).1).mono fun _ _ ⟨he, hq⟩ => ⟨he, drew_below hq⟩
  have HSa : Hid (∀ W, Below w.heap.size w W → Calls Try.prog 19 #[.slice A n c, .slice D m d] W fun e w' => e = .returned (.bool B) ∧ Below W.heap.size W w') := Lib.hid fun W h => by
    rw [hB]
    exact same_c L P n m c d A D W (HL.out.below h) (HP.out.below h)
  clear hl hp hB
  go_enter Try.func4, Try.ntmps4
  go_wp2_with fail
  with_reducible refine (HLo.out).mono ?_
  rintro e w1 ⟨⟨b, rfl, h300⟩, hb1⟩
  have hb1z := hb1.size
  cases b with
  | true =>
    have HAw := Lib.hid (awake_any w1)
    clear h300
    go_wp2_with (go_at_call 10; ((with_reducible refine (HAw.out).mono ?_); rintro e w2 ⟨rfl, hb2⟩))
    go_ret
    exact ⟨rfl, hb1.trans (hb2.mono hb1z)⟩
  | false =>
    obtain ⟨hn, hm⟩ := h300 rfl
    have HF := Lib.hid (find_c L P n m c d A D w1 (HL.out.below hb1) (HP.out.below hb1) hn)
    clear h300
    go_wp2_with fail
    with_reducible refine (HF.out).mono ?_
    rintro e w2 ⟨⟨A2, n2, c2, rfl, q2⟩, hb2⟩
    have hb02 := hb1.trans (hb2.mono hb1z)
    have hb02z := hb02.size
    have HQ2 := Lib.hid q2
    have HG := Lib.hid (rfind_c L P n m c d A D w2 (HL.out.below hb02) (HP.out.below hb02) hn)
    have hl2 : (occ L P 0).length = n2 := q2.len
    have hn2 : n2 ≤ 300 := by have := occ_len L P; have := HL.out.len; omega
    clear q2
    go_wp2_with fail
    with_reducible refine (HG.out).mono ?_
    rintro e w3 ⟨⟨A3, n3, c3, rfl, q3⟩, hb3⟩
    have hb03 := hb02.trans (hb3.mono hb02z)
    have hb03z := hb03.size
    obtain rfl : n2 = n3 := hl2.symm.trans q3.len
    have HQ3 := Lib.hid q3
    have HQ23 := Lib.hid (HQ2.out.below hb3)
    have hco := count_any L P w3.heap.size n m c d A D w3 (HL.out.below hb03).1 (HP.out.below hb03).1
    rw [hl2] at hco
    have HCo := Lib.hid hco
    obtain ⟨K, hK⟩ : ∃ K, K = occ L P 0 := ⟨_, rfl⟩
    rw [← hK] at HQ3 HQ23
    clear q3 hco hl2 hK
    go_wp2_with fail
    with_reducible refine (HCo.out).mono ?_
    rintro e w4 ⟨rfl, hb4⟩
    have hb04 := hb03.trans (hb4.mono hb03z)
    have hb04z := hb04.size
    have HK2 := Lib.hid (HQ23.out.below hb4)
    have HK3 := Lib.hid (HQ3.out.below hb4)
    go_wp2
    go_loopw [34] (fun i wr => ∃ k : Nat, k ≤ n2 ∧ i = .int .i64 k ∧ ∃ q, wr = w4.drewN q) (fun i _ => n2 - (intOf i).toNat)
    case atStart => exact ⟨0, Nat.zero_le _, rfl, 0, rfl⟩
    case round =>
      obtain ⟨k, hk, rfl, hq⟩ := hrel
      have HQ := Lib.hid hq
      have hbq := drew_below hq
      clear hq
      by_cases hlt : k < n2
      · obtain ⟨b, off, rfl, _, hc1⟩ := HK2.out.1.num hbq hlt
        obtain ⟨b', off', rfl, _, hc2⟩ := HK3.out.1.num hbq hlt
        go_wp2
        go_quiet (fail)
        go_wp2
        go_roundw
        case rel => exact ⟨k + 1, by omega, by go_num, drew_more HQ.out _⟩
        case measure => simp [intOf]; omega
      · have hbr := hb04.trans (hbq.mono hb04z)
        have hbrz := hbr.size
        have HE1 := Lib.hid (HEq.out wr hbr)
        go_wp2_with fail
        with_reducible refine (HE1.out).mono ?_
        rintro e w5 ⟨rfl, hb5⟩
        have hb05 := hbr.trans (hb5.mono hbrz)
        have hb05z := hb05.size
        have HS1 := Lib.hid (HSa.out w5 hb05)
        go_wp2_with fail
        with_reducible refine (HS1.out).mono ?_
        rintro e w6 ⟨rfl, hb6⟩
        have hb06 := hb05.trans (hb6.mono hb05z)
        have hb06z := hb06.size
        have HAw := Lib.hid (awake_any w6)
        have hBB : (B == B) = true := by simp
        go_wp2_with (go_at_call 10; ((with_reducible refine (HAw.out).mono ?_); rintro e w7 ⟨rfl, hb7⟩))
        go_ret
        exact ⟨rfl, hb06.trans (hb7.mono hb06z)⟩
theorem lawFinds' {L0 L1 : List Str} {n0 n1 c0 c1 : Nat} {A0 A1 : Option Addr} {w : World} (h0 : Sq w A0 n0 c0 L0) (h1 : Sq w A1 n1 c1 L1) :
    Calls Try.prog 4 #[.slice A0 n0 c0, .slice A1 n1 c1] w fun e w' => e = .returned (.bool true) ∧ Below w.heap.size w w' := lawFinds L0 L1 n0 n1 c0 c1 A0 A1 w h0 h1
end Go.Proofs.Ytphehcbjegfifaa
