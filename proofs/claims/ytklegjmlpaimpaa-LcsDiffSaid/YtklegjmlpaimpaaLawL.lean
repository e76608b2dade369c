/-
  The walk of the law LcsLimits.
-/
import Derived.Test.YtklegjmlpaimpaaDif
import Derived.Test.YtklegjmlpaimpaaLawC
namespace Go.Proofs.Ytklegjmlpaimpaa
open Go.RowKit (wrap32 wrap64 intOf Hid Below)
open Lcs Rise

theorem prl_big {La Lb : List Str} (h : 256 < La.length ∨ 256 < Lb.length) : prl La Lb = [] := by unfold prl; rw [if_pos h]
/-- One word again and again. -/
abbrev rep (n : Nat) (s : Str) : List Str := List.replicate n s
theorem rep_more (n : Nat) (s : Str) : rep (n + 1) s = rep n s ++ [s] := List.replicate_succ'
/-- The first numbers. -/
def cnt (n : Nat) : List Int := (List.range n).map fun (i : Nat) => (i : Int)
theorem cnt_more (n : Nat) : cnt (n + 1) = cnt n ++ [(n : Int)] := by simp [cnt, List.range_succ]
theorem cnt_len (n : Nat) : (cnt n).length = n := by simp [cnt]
theorem zi_app (a b : List Int) : zi (a ++ b) = zi a ++ zi b := by simp [zi]
theorem dff_same (n : Nat) (s : Str) : dff (rep n s) (rep n s) = [] := by unfold dff; rw [if_pos rfl]
theorem dff_other {n m : Nat} (s : Str) (h : n ≠ m) (hb : 256 < n ∨ 256 < m) : dff (rep n s) (rep m s) = [⟨0, rep n s, rep m s⟩] := by
  have hne : rep n s ≠ rep m s := fun e => h (by have := congrArg List.length e; simpa using this)
  unfold dff dif
  rw [if_neg hne, prl_big (by simpa using hb)]
  unfold eds gap
  rw [if_pos (by simp only [List.length_replicate]; omega)]
  simp
theorem own_sq {w : World} {base n c : Nat} {A : Option Addr} {L : List Str} (h : w.ownsRow base 9 1 (.slice A n c) n (sv L)) (hn : n ≤ 1000) : Sq w A n c L := Sq.of_own h (by omega)
theorem ob_fresh {w : World} {base n size g : Nat} {e : TypeId} {v : Value} {xs : List Value} (h : w.ownsRow base e size v n xs) (hg : w.heap.size ≤ g) : v.ownBlock ≠ some g := fun e => by
  have := (h.lt g e).2
  omega

set_option maxHeartbeats 8000000 in
set_option maxRecDepth 100000 in
theorem lawLimits (n m : Int) (s : Str) (w : World) :
    Calls Try.prog 9 #[.int .i64 n, .int .i64 m, .string s] w fun e w' => e = .returned (.bool true) ∧ Below w.heap.size w w' := by
  have HAw := Lib.hid (awake_any w)
  by_cases hc : 0 ≤ n ∧ n ≤ 400 ∧ 0 ≤ m ∧ m ≤ 400 ∧ (256 < n ∨ 256 < m) ∧ s.size ≤ 100
  · obtain ⟨c1, c2, c3, c4, c5, c6⟩ := hc
    obtain ⟨N, rfl⟩ : ∃ N : Nat, n = N := ⟨n.toNat, by omega⟩
    obtain ⟨M, rfl⟩ : ∃ M : Nat, m = M := ⟨m.toNat, by omega⟩
    obtain ⟨i0, hi, hz0, hz1, hz2⟩ := info_parts info_str
    obtain ⟨j0, hj, hj0, hj1, hj2⟩ := info_parts info_int
    have HI := Lib.hid hi
    have HZ0 := Lib.hid hz0
    have HZ1 := Lib.hid hz1
    have HZ2 := Lib.hid hz2
    have HJ := Lib.hid hj
    have HJ0 := Lib.hid hj0
    have HJ1 := Lib.hid hj1
    have HJ2 := Lib.hid hj2
    have hN : N ≤ 400 := by omega
    have hM : M ≤ 400 := by omega
    have H5 : Hid (256 < N ∨ 256 < M) := Lib.hid (by omega)
    have hcond : ((N : Int) ≤ 256 ∧ (M : Int) ≤ 256) → False := by omega
    clear hi hz0 hz1 hz2 hj hj0 hj1 hj2 c1 c3
    by_cases hN2 : N ≤ 256
    all_goals
      go_enter Try.func9, Try.ntmps9
      go_wp2_with fail
      with_reducible refine (HAw.out).mono ?_
      rintro e w1 ⟨rfl, hb1⟩
      have hM2 : ¬ ((N : Int) ≤ 256 ∧ (M : Int) ≤ 256) := hcond
      have hM3 : N ≤ 256 → ¬ M ≤ 256 := by omega
      go_wp2
      obtain ⟨S1, hS1⟩ : ∃ S1, S1 = w1.heap.size := ⟨_, rfl⟩
      obtain ⟨W, hW⟩ : ∃ W, W = ((w1.alloc (.cells #[] 9)).alloc (.cells #[] 9)).alloc (.cells #[] 3) := ⟨_, rfl⟩
      have oa : W.ownsRow w1.heap.size 9 1 (.slice (some ⟨S1, 0, none⟩) 0 0) 0 [] := by
        rw [hW, hS1]
        exact own_below (own_below (own_empty w1 9 1) (alloc_below _ _)) (alloc_below _ _)
      have ob : W.ownsRow w1.heap.size 9 1 (.slice (some ⟨S1 + 1, 0, none⟩) 0 0) 0 [] := by
        rw [hW, hS1]
        have h := own_below (own_empty (w1.alloc (.cells #[] 9)) 9 1) (alloc_below _ (.cells #[] 3))
        have e : (w1.alloc (.cells #[] 9)).heap.size = w1.heap.size + 1 := by simp
        rw [e] at h
        exact own_base h (by omega)
      have ol : W.ownsRow w1.heap.size 3 1 (.slice (some ⟨S1 + 1 + 1, 0, none⟩) 0 0) 0 [] := by
        rw [hW, hS1]
        have h := own_empty ((w1.alloc (.cells #[] 9)).alloc (.cells #[] 9)) 3 1
        have e : ((w1.alloc (.cells #[] 9)).alloc (.cells #[] 9)).heap.size = w1.heap.size + 1 + 1 := by simp
        rw [e] at h
        exact own_base h (by omega)
      have hbW : Below w1.heap.size w1 W := by rw [hW]; exact (two_below _ _ _).alloc (by simp; omega) _
      rw [← hW, ← hS1]
      have OA := Lib.hid oa
      have OB := Lib.hid ob
      have OL := Lib.hid ol
      have hb1z := hb1.size
      clear oa ob ol hW hS1
      go_loopw [7, 9, 10] (fun a l i wr => ∃ (k ca cl : Nat) (Aa Al : Option Addr), k ≤ N ∧ i = .int .i64 k ∧ a = .slice Aa k ca ∧ l = .slice Al k cl ∧ wr.ownsRow w1.heap.size 9 1 (.slice Aa k ca) k (sv (rep k s)) ∧ wr.ownsRow w1.heap.size 3 1 (.slice Al k cl) k (zi (cnt k)) ∧ wr.ownsRow w1.heap.size 9 1 (.slice (some ⟨S1 + 1, 0, none⟩) 0 0) 0 [] ∧ (Value.slice Aa k ca).ownBlock ≠ (Value.slice Al k cl).ownBlock ∧ (Value.slice Aa k ca).ownBlock ≠ some (S1 + 1) ∧ (Value.slice Al k cl).ownBlock ≠ some (S1 + 1) ∧ Below w1.heap.size w1 wr) (fun _ _ i _ => N - (intOf i).toNat)
      case atStart => exact ⟨0, 0, 0, _, _, Nat.zero_le _, rfl, rfl, rfl, OA.out, OL.out, OB.out, ob_ne (b := S1 + 1 + 1) (by omega), ob_ne (by omega), ob_ne (by omega), hbW⟩
      case round =>
        obtain ⟨k, ca, cl, Aa, Al, hk, rfl, rfl, rfl, ha, hl, hb, n1, n2, n3, hbr⟩ := hrel
        have HA := Lib.hid ha
        have HL := Lib.hid hl
        have HB := Lib.hid hb
        have H1 := Lib.hid n1
        have H2 := Lib.hid n2
        have H3 := Lib.hid n3
        have hbz := hbr.size
        clear ha hl hb n1 n2 n3
        by_cases hlt : k < N
        · have hi := HI.out
          have hz0 := HZ0.out
          have hz1 := HZ1.out
          have hz2 := HZ2.out
          go_wp2_with (at_builtin; refine wpList_append_own_at _ rfl _ _ 22 rfl w1.heap.size 9 i0 (.string ⟨#[]⟩) 1 16 Try.underlying22 hi hz0 hz1 hz2 rfl (by decide) _ _ _ rfl (own_below HA.out (alloc_below wr _)) ⟨wr.heap.size, 0, none⟩ 1 1 [.string s] rfl rfl (fun j u hj => new_one wr _ _ j u hj) (by intro u hu; simp at hu; subst hu; rfl) (by unfold maxLen; omega) (by omega) (by simp; omega) ?_)
          intro v2 w2 hown2 hg2 _ hat2
          have hb2 : Below w1.heap.size w1 w2 := Below.grown (hbr.trans ((alloc_below wr _).mono hbz)) hg2 (by simp; omega) (fun g hg => (HA.out.lt g hg).1)
          have HL2 := Lib.hid ((own_below HL.out (alloc_below wr (.cells #[.string s] 9))).kept hg2 (Or.inr (Ne.symm H1.out)))
          have HB2 := Lib.hid ((own_below HB.out (alloc_below wr (.cells #[.string s] 9))).kept hg2 (Or.inr (Ne.symm H2.out)))
          have HS2 := Lib.hid hg2.size
          have hlz : (Value.slice Al k cl).ownBlock ≠ some (wr.heap.size + 1) := ob_fresh (own_below HL.out (alloc_below wr (.cells #[.string s] 9))) (by simp)
          have n1 : v2.ownBlock ≠ (Value.slice Al k cl).ownBlock := by
            rcases hat2 with h | h
            · rw [h]; exact H1.out
            · rw [h]; exact Ne.symm hlz
          have hS : S1 + 1 < wr.heap.size := (HB.out.lt (S1 + 1) rfl).2
          have n2 : v2.ownBlock ≠ some (S1 + 1) := by
            rcases hat2 with h | h
            · rw [h]; exact H2.out
            · rw [h]
              intro e
              injection e with e
              omega
          obtain ⟨A2, c2, rfl, _⟩ := own_slice hown2
          have HA2 := Lib.hid hown2
          have N1 := Lib.hid n1
          have N2 := Lib.hid n2
          have hi := HJ.out
          have hz0 := HJ0.out
          have hz1 := HJ1.out
          have hz2 := HJ2.out
          have hb2z := hb2.size
          have hSw : S1 + 1 < w2.heap.size := by have := HS2.out; simp at this; omega
          clear hown2 hg2 hat2 hlz n1 n2
          go_wp2_with (at_builtin; refine wpList_append_own_at _ rfl _ _ 44 rfl w1.heap.size 3 j0 (.int .i64 0) 1 8 Try.underlying44 hi hz0 hz1 hz2 rfl (by decide) _ _ _ rfl (own_below HL2.out (alloc_below w2 _)) ⟨w2.heap.size, 0, none⟩ 1 1 [.int .i64 (k : Int)] rfl rfl (fun j u hj => new_one w2 _ _ j u hj) (by intro u hu; simp at hu; subst hu; rfl) (by unfold maxLen; omega) (by omega) (by simp; omega) ?_)
          intro v3 w3 hown3 hg3 _ hat3
          have hb3 : Below w1.heap.size w1 w3 := Below.grown (hb2.trans ((alloc_below w2 _).mono hb2z)) hg3 (by simp; omega) (fun g hg => (HL2.out.lt g hg).1)
          have HA3 := Lib.hid ((own_below HA2.out (alloc_below w2 (.cells #[.int .i64 (k : Int)] 3))).kept hg3 (Or.inr N1.out))
          have HB3 := Lib.hid ((own_below HB2.out (alloc_below w2 (.cells #[.int .i64 (k : Int)] 3))).kept hg3 (Or.inr (Ne.symm H3.out)))
          have haz : (Value.slice A2 (k + 1) c2).ownBlock ≠ some (w2.heap.size + 1) := ob_fresh (own_below HA2.out (alloc_below w2 (.cells #[.int .i64 (k : Int)] 3))) (by simp)
          have n1 : (Value.slice A2 (k + 1) c2).ownBlock ≠ v3.ownBlock := by
            rcases hat3 with h | h
            · rw [h]; exact N1.out
            · rw [h]; exact haz
          have n3 : v3.ownBlock ≠ some (S1 + 1) := by
            rcases hat3 with h | h
            · rw [h]; exact H3.out
            · rw [h]
              intro e
              injection e with e
              omega
          obtain ⟨A3, c3, rfl, _⟩ := own_slice hown3
          have HL3 := Lib.hid hown3
          have N3 := Lib.hid n1
          have N4 := Lib.hid n3
          clear hown3 hg3 hat3 haz n1 n3 hi hz0 hz1 hz2
          go_wp2
          go_roundw
          case rel => exact ⟨k + 1, c2, c3, A2, A3, by omega, by go_num, rfl, rfl, by rw [rep_more, sv_app]; exact HA3.out, by rw [cnt_more, zi_app]; exact HL3.out, HB3.out, N3.out, N2.out, N4.out, hb3⟩
          case measure => simp [intOf]; omega
        · obtain rfl : k = N := by omega
          go_wp2
          go_loopw [8, 11] (fun b i wv => ∃ (j cb : Nat) (Ab : Option Addr), j ≤ M ∧ i = .int .i64 j ∧ b = .slice Ab j cb ∧ wv.ownsRow w1.heap.size 9 1 (.slice Aa k ca) k (sv (rep k s)) ∧ wv.ownsRow w1.heap.size 3 1 (.slice Al k cl) k (zi (cnt k)) ∧ wv.ownsRow w1.heap.size 9 1 (.slice Ab j cb) j (sv (rep j s)) ∧ (Value.slice Aa k ca).ownBlock ≠ (Value.slice Ab j cb).ownBlock ∧ (Value.slice Al k cl).ownBlock ≠ (Value.slice Ab j cb).ownBlock ∧ Below w1.heap.size w1 wv) (fun _ i _ => M - (intOf i).toNat)
          case atStart => exact ⟨0, 0, _, Nat.zero_le _, rfl, rfl, HA.out, HL.out, HB.out, H2.out, H3.out, hbr⟩
          case round =>
            rename World => wv
            obtain ⟨j, cb, Ab, hj, rfl, rfl, ha, hl, hb, n1, n2, hbv⟩ := hrel
            clear HA HL HB H1 H2 H3 hbr hbz
            have HA := Lib.hid ha
            have HL := Lib.hid hl
            have HB := Lib.hid hb
            have H1 := Lib.hid n1
            have H2 := Lib.hid n2
            have hbz := hbv.size
            clear ha hl hb n1 n2
            by_cases hlt : j < M
            · have hi := HI.out
              have hz0 := HZ0.out
              have hz1 := HZ1.out
              have hz2 := HZ2.out
              go_wp2_with (at_builtin; refine wpList_append_own_at _ rfl _ _ 22 rfl w1.heap.size 9 i0 (.string ⟨#[]⟩) 1 16 Try.underlying22 hi hz0 hz1 hz2 rfl (by decide) _ _ _ rfl (own_below HB.out (alloc_below wv _)) ⟨wv.heap.size, 0, none⟩ 1 1 [.string s] rfl rfl (fun j u hj => new_one wv _ _ j u hj) (by intro u hu; simp at hu; subst hu; rfl) (by unfold maxLen; omega) (by omega) (by simp; omega) ?_)
              intro v2 w2 hown2 hg2 _ hat2
              have hb2 : Below w1.heap.size w1 w2 := Below.grown (hbv.trans ((alloc_below wv _).mono hbz)) hg2 (by simp; omega) (fun g hg => (HB.out.lt g hg).1)
              have HA2 := Lib.hid ((own_below HA.out (alloc_below wv (.cells #[.string s] 9))).kept hg2 (Or.inr H1.out))
              have HL2 := Lib.hid ((own_below HL.out (alloc_below wv (.cells #[.string s] 9))).kept hg2 (Or.inr H2.out))
              have haz : (Value.slice Aa k ca).ownBlock ≠ some (wv.heap.size + 1) := ob_fresh (own_below HA.out (alloc_below wv (.cells #[.string s] 9))) (by simp)
              have hlz : (Value.slice Al k cl).ownBlock ≠ some (wv.heap.size + 1) := ob_fresh (own_below HL.out (alloc_below wv (.cells #[.string s] 9))) (by simp)
              have n1 : (Value.slice Aa k ca).ownBlock ≠ v2.ownBlock := by
                rcases hat2 with h | h
                · rw [h]; exact H1.out
                · rw [h]; exact haz
              have n2 : (Value.slice Al k cl).ownBlock ≠ v2.ownBlock := by
                rcases hat2 with h | h
                · rw [h]; exact H2.out
                · rw [h]; exact hlz
              obtain ⟨A2, c2, rfl, _⟩ := own_slice hown2
              have HB2 := Lib.hid hown2
              have N1 := Lib.hid n1
              have N2 := Lib.hid n2
              clear hown2 hg2 hat2 haz hlz n1 n2 hi hz0 hz1 hz2
              go_wp2
              go_roundw
              case rel => exact ⟨j + 1, c2, A2, by omega, by go_num, rfl, HA2.out, HL2.out, by rw [rep_more, sv_app]; exact HB2.out, N1.out, N2.out, hb2⟩
              case measure => simp [intOf]; omega
            · obtain rfl : j = M := by omega
              have hbw := hb1.trans (hbv.mono hb1z)
              have hbwz := hbw.size
              have HSa := Lib.hid (Sq.of_own HA.out (by omega))
              have HSb := Lib.hid (Sq.of_own HB.out (by omega))
              have HZl : Hid (Zq wv Al k (cnt k)) := Lib.hid ⟨ValsAt.of_own HL.out, by omega⟩
              have HDf := Lib.hid (diff_any (rep k s) (rep j s) k j ca cb Aa Ab wv HSa.out HSb.out (by omega) (by omega))
              clear HA HL HB H1 H2
              go_wp2_with fail
              with_reducible refine (HDf.out).mono ?_
              rintro e w2 ⟨⟨A2, q2, c2, rfl, hed⟩, hb2⟩
              have HEd := Lib.hid hed
              have hb2z := hb2.size
              have hpr := pairs_any (rep k s) (rep j s) k j ca cb Aa Ab w2 (HSa.out.below hb2) (HSb.out.below hb2) (by omega) (by omega)
              rw [prl_big (by have := H5.out; simpa using this)] at hpr
              have HPr := Lib.hid hpr
              clear hed hpr
              go_wp2_with fail
              with_reducible refine (HPr.out).mono ?_
              rintro e w3 ⟨⟨A3, q3, c3, rfl, hq3, _⟩, hb3⟩
              obtain rfl : q3 = 0 := hq3
              have hb23 := hb2.trans (hb3.mono hb2z)
              have hb23z := hb23.size
              have hdi := dist_any (rep k s) (rep j s) k j ca cb Aa Ab w3 (HSa.out.below hb23) (HSb.out.below hb23) (by omega) (by omega)
              rw [show dst (rep k s) (rep j s) = (k : Int) + j by unfold dst; rw [prl_big (by have := H5.out; simpa using this)]; simp] at hdi
              have HDi := Lib.hid hdi
              clear hdi
              go_wp2_with fail
              with_reducible refine (HDi.out).mono ?_
              rintro e w4 ⟨rfl, hb4⟩
              have hb24 := hb23.trans (hb4.mono hb23z)
              have hb24z := hb24.size
              have hli := lis_any (cnt k) k cl Al w4 (HZl.out.below hb24).1 (by omega)
              have HLi := Lib.hid hli
              have heq : ((k : Int) + j != (k : Int) + j) = false := by simp
              clear hli
              have hnil : (lis (cnt k)).length = 0 ∨ ¬ 256 < k := by
                by_cases h : 256 < k
                · left
                  unfold lis
                  rw [if_pos (by rw [cnt_len]; exact h)]
                  rfl
                · exact Or.inr h
              have HNil := Lib.hid hnil
              clear hnil heq
              by_cases hkj : k = j
              · have hq2 : q2 = 0 := by
                  have h := HEd.out.1
                  rw [hkj, dff_same] at h
                  exact h.symm
                have hk256 : 256 < k := by have := H5.out; omega
                try (exfalso; omega)
                all_goals
                  have hbe : ((k : Int) == (j : Int)) = true := by rw [beq_iff_eq]; omega
                  subst hq2
                  clear hkj
                  go_wp2_with fail
                  with_reducible refine (HLi.out).mono ?_
                  rintro e w5 ⟨⟨A5, q5, c5, rfl, hq5, _⟩, hb5⟩
                  have hq0 : q5 = 0 := by
                    rcases HNil.out with h | h
                    · omega
                    · exact absurd hk256 h
                  subst hq0
                  have hb25 := hb24.trans (hb5.mono hb24z)
                  have hb25z := hb25.size
                  clear hq5
                  go_wp2
                  go_ret
                  exact ⟨rfl, hbw.trans (hb25.mono hbwz)⟩
              · have hq2 : q2 = 1 := by
                  have h := HEd.out.1
                  rw [dff_other s hkj H5.out] at h
                  exact h.symm
                have hbe : ((k : Int) == (j : Int)) = false := by rw [beq_eq_false_iff_ne]; omega
                subst hq2
                obtain ⟨b, off, Ao, An, no, co, nn, cn, rfl, hblt, e0, e1, e2, so, sn⟩ := HEd.out.at_ (k := 0) (by omega)
                rw [dff_other s hkj H5.out] at e0 so sn
                rw [Nat.zero_mul, Nat.add_zero] at e0 e1 e2
                have HSo : Hid (Sq w2 Ao no co (rep k s)) := Lib.hid so
                have HSn : Hid (Sq w2 An nn cn (rep j s)) := Lib.hid sn
                have e0' : w2.cell? ⟨b, off, none⟩ = some (.int .i64 0) := e0
                clear hkj so sn e0
                by_cases hk256 : 256 < k
                · try (exfalso; omega)
                  all_goals
                    go_wp2_with fail
                    with_reducible refine (HLi.out).mono ?_
                    rintro e w5 ⟨⟨A5, q5, c5, rfl, hq5, _⟩, hb5⟩
                    have hq0 : q5 = 0 := by
                      rcases HNil.out with h | h
                      · omega
                      · exact absurd hk256 h
                    subst hq0
                    have hb25 := hb24.trans (hb5.mono hb24z)
                    have hb25z := hb25.size
                    clear hq5
                    have hc34 := (hb3.trans (hb4.mono hb3.size)).trans (hb5.mono (hb3.trans (hb4.mono hb3.size)).size)
                    have hcz := hc34.size
                    have x0 := (hc34.cell (p := ⟨b, off, none⟩) hblt).trans e0'
                    have x1 := (hc34.cell (p := ⟨b, off + 1, none⟩) hblt).trans e1
                    have HC1 := same_c (rep k s) (rep k s) no k co ca Ao Aa w5 (HSo.out.below hc34) (HSa.out.below hb25)
                    rw [decide_eq_true rfl] at HC1
                    have HC1 := Lib.hid HC1
                    clear e0' e1
                    go_wp2_with fail
                    with_reducible refine (HC1.out).mono ?_
                    rintro e w6 ⟨rfl, hb6⟩
                    have hc6 := hc34.trans (hb6.mono hcz)
                    have hv6 := hb25.trans (hb6.mono hb25.size)
                    have hv6z := hv6.size
                    have x2 := (hc6.cell (p := ⟨b, off + 2, none⟩) hblt).trans e2
                    have HC2 := same_c (rep j s) (rep j s) nn j cn cb An Ab w6 (HSn.out.below hc6) (HSb.out.below hv6)
                    rw [decide_eq_true rfl] at HC2
                    have HC2 := Lib.hid HC2
                    clear e2
                    go_wp2_with fail
                    with_reducible refine (HC2.out).mono ?_
                    rintro e w7 ⟨rfl, hb7⟩
                    go_wp2
                    go_ret
                    exact ⟨rfl, hbw.trans ((hv6.trans (hb7.mono hv6z)).mono hbwz)⟩
                · try (exfalso; omega)
                  all_goals
                    have hc34 := hb3.trans (hb4.mono hb3.size)
                    have hcz := hc34.size
                    have x0 := (hc34.cell (p := ⟨b, off, none⟩) hblt).trans e0'
                    have x1 := (hc34.cell (p := ⟨b, off + 1, none⟩) hblt).trans e1
                    have HC1 := same_c (rep k s) (rep k s) no k co ca Ao Aa w4 (HSo.out.below hc34) (HSa.out.below hb24)
                    rw [decide_eq_true rfl] at HC1
                    have HC1 := Lib.hid HC1
                    clear e0' e1
                    go_wp2_with fail
                    with_reducible refine (HC1.out).mono ?_
                    rintro e w6 ⟨rfl, hb6⟩
                    have hc6 := hc34.trans (hb6.mono hcz)
                    have hv6 := hb24.trans (hb6.mono hb24.size)
                    have hv6z := hv6.size
                    have x2 := (hc6.cell (p := ⟨b, off + 2, none⟩) hblt).trans e2
                    have HC2 := same_c (rep j s) (rep j s) nn j cn cb An Ab w6 (HSn.out.below hc6) (HSb.out.below hv6)
                    rw [decide_eq_true rfl] at HC2
                    have HC2 := Lib.hid HC2
                    clear e2
                    go_wp2_with fail
                    with_reducible refine (HC2.out).mono ?_
                    rintro e w7 ⟨rfl, hb7⟩
                    go_wp2
                    go_ret
                    exact ⟨rfl, hbw.trans ((hv6.trans (hb7.mono hv6z)).mono hbwz)⟩
  · go_enter Try.func9, Try.ntmps9
    go_wp2_with fail
    with_reducible refine (HAw.out).mono ?_
    rintro e w1 ⟨rfl, hb1⟩
    go_wp2
    all_goals first
      | (go_ret; exact ⟨rfl, hb1⟩)
      | (exfalso; omega)
end Go.Proofs.Ytklegjmlpaimpaa
