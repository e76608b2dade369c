/-
  The contracts of the reference's Replace and Behind.
-/
import Derived.Test.YtphehcbjegfifaaRrp
namespace Go.Proofs.Ytphehcbjegfifaa
open Go.RowKit (wrap32 wrap64 intOf Hid Below)
open Occ

theorem Apart.stood {l p : List Str} : ∀ {r : List Nat} {lo : Nat}, Apart l p lo r → ∀ a ∈ r, stands l p a = true
  | [], _, _, a, ha => by cases ha
  | b :: r, lo, h, a, ha => by
    rcases List.mem_cons.1 ha with rfl | ha
    · exact h.2.1
    · exact Apart.stood h.2.2 a ha
theorem chosen_apart (L P : List Str) (nth : Int) : Apart L P 0 (chosen (occ L P 0) nth) := by
  have h := occ_apart L P 0
  unfold chosen
  split
  · exact h
  · split
    · trivial
    · cases hd : (occ L P 0).drop (nth.toNat - 1) with
      | nil => trivial
      | cons a r =>
        have hm : a ∈ occ L P 0 := List.mem_of_mem_drop (i := nth.toNat - 1) (by rw [hd]; simp)
        exact ⟨Nat.zero_le _, Apart.stood h a hm, trivial⟩
/-- What the loop of the reference's Replace keeps: what is done, and which indices are left. -/
structure Past (L P F : List Str) (C : List Nat) (k q : Nat) (xs : List Str) (r : List Nat) : Prop where
  len : xs.length = q
  most : q ≤ 1000 * k
  rest : put L P.length F 0 C = xs ++ put L P.length F k r
  parts : ∃ pre, C = pre ++ r ∧ ∀ a ∈ pre, a < k
  apart : Apart L P k r
theorem Past.start (L P F : List Str) (C : List Nat) (h : Apart L P 0 C) : Past L P F C 0 0 [] C := ⟨rfl, by omega, rfl, ⟨[], rfl, by simp⟩, h⟩
theorem Past.no {L P F : List Str} {C : List Nat} {k q : Nat} {xs : List Str} {r : List Nat} (h : Past L P F C k q xs r) (hk : k < L.length) (hn : ¬ k ∈ C) : Past L P F C (k + 1) (q + 1) (xs ++ [st L k]) r := by
  obtain ⟨pre, hC, hpre⟩ := h.parts
  have hhead : ∀ a ∈ r.head?, k < a := by
    intro a ha
    cases r with
    | nil => simp at ha
    | cons b r =>
      have hab : b = a := by simpa using ha
      subst hab
      have h1 := h.apart.1
      rcases Nat.lt_or_ge k b with h2 | h2
      · exact h2
      · exact absurd (show k ∈ C by rw [hC, show k = b by omega]; simp) hn
  refine ⟨by rw [List.length_append, h.len]; rfl, by have := h.most; omega, ?_, ⟨pre, hC, fun a ha => by have := hpre a ha; omega⟩, ?_⟩
  · rw [h.rest, put_step L _ F k r hk hhead, st_eq hk]
    simp
  · cases r with
    | nil => trivial
    | cons b r => exact ⟨hhead b (by simp), h.apart.2⟩
theorem Past.yes {L P F : List Str} {C : List Nat} {k q : Nat} {xs : List Str} {r : List Nat} (h : Past L P F C k q xs r) (hk : k < L.length) (hy : k ∈ C) (hF : F.length ≤ 1000) (hP : 0 < P.length) : ∃ r', Past L P F C (k + P.length) (q + F.length) (xs ++ F) r' ∧ k + P.length ≤ L.length := by
  obtain ⟨pre, hC, hpre⟩ := h.parts
  have hr : k ∈ r := by
    rw [hC] at hy
    rcases List.mem_append.1 hy with h1 | h1
    · exact absurd (hpre k h1) (by omega)
    · exact h1
  cases r with
  | nil => cases hr
  | cons b r' =>
    have hbk : b = k := by
      rcases List.mem_cons.1 hr with h1 | h1
      · exact h1.symm
      · have h2 := (Apart.mem h.apart.2.2 k h1).1
        have h3 := h.apart.1
        omega
    subst hbk
    refine ⟨r', ⟨by rw [List.length_append, h.len], by have := h.most; omega, ?_, ⟨pre ++ [b], by rw [hC]; simp, ?_⟩, h.apart.2.2⟩, stands_lt h.apart.2.1⟩
    · rw [h.rest, put_here L _ F b r' (by omega)]
      simp
    · intro a ha
      rcases List.mem_append.1 ha with h1 | h1
      · have := hpre a h1; omega
      · have : a = b := by simpa using h1
        omega
theorem Past.last {L P F : List Str} {C : List Nat} {k q : Nat} {xs : List Str} {r : List Nat} (h : Past L P F C k q xs r) (hk : L.length ≤ k) (hP : 0 < P.length ∨ C = []) : xs = put L P.length F 0 C := by
  have hr : r = [] := by
    cases r with
    | nil => rfl
    | cons b r =>
      have h1 := stands_lt h.apart.2.1
      have h2 := h.apart.1
      rcases hP with hP | hP
      · omega
      · obtain ⟨pre, hC, _⟩ := h.parts
        rw [hP] at hC
        simp at hC
  rw [h.rest, hr, put_end L _ F k hk, List.append_nil]

/-- A sequence and a number are handed back. -/
def RetSeqN (R : List Str × Nat) (e : Ending) (w' : World) : Prop := ∃ A n c, e = .returned (.tuple #[.slice A n c, .int .i64 ((R.2 : Nat) : Int)]) ∧ Sq w' A n c R.1
set_option maxHeartbeats 4000000 in
set_option maxRecDepth 100000 in
theorem refreplace_any (L P F : List Str) (n m f c d k : Nat) (A D E : Option Addr) (nth : Int) (w : World) (hl : Sq w A n c L) (hp : Sq w D m d P) (hf : Sq w E f k F) (hn : n ≤ 100000) (hF : f ≤ 1000) :
    Calls Try.prog 22 #[.slice A n c, .slice D m d, .slice E f k, .int .i64 nth] w fun e w' => RetSeqN (repl L P F nth) e w' ∧ Below w.heap.size w w' := by
  obtain ⟨i0, hi, hz0, hz1, hz2⟩ := info_parts info_str
  have HFi : Hid (∀ W, Below w.heap.size w W → Calls Try.prog 16 #[.slice A n c, .slice D m d] W fun e w' => NumsRet W.heap.size (occ L P 0) e w' ∧ Below W.heap.size W w') := Lib.hid fun W h =>
    reffind_any L P W.heap.size n m c d A D W (hl.below h).1 (hp.below h).1
  have HLn := Lib.hid hl.len
  have HPn := Lib.hid hp.len
  have HFn := Lib.hid hf.len
  have HL := Lib.hid hl
  have HF := Lib.hid hf
  have HOl := Lib.hid (occ_len L P)
  obtain ⟨C, hC⟩ : ∃ C, C = chosen (occ L P 0) nth := ⟨_, rfl⟩
  have HC := Lib.hid hC
  have HCA : Hid (Apart L P 0 C) := Lib.hid (by rw [hC]; exact chosen_apart L P nth)
  have HCl : Hid (C.length ≤ n) := Lib.hid (by rw [hC]; have := chosen_len (occ L P 0) nth; have := HOl.out; have := HLn.out; omega)
  have HPC : Hid (0 < m ∨ C = []) := Lib.hid (by
    rcases Nat.eq_zero_or_pos m with h | h
    · right
      have hP0 : P = [] := List.eq_nil_of_length_eq_zero (by have := HPn.out; omega)
      rw [hC, hP0, occ_nil]
      have := chosen_len [] nth
      exact List.eq_nil_of_length_eq_zero (by simpa using this)
    · exact Or.inl h)
  have hmm := hp.1.2.2.2.1
  clear hl hp hf hC
  go_enter Try.func22, Try.ntmps22
  go_wp2_with fail
  with_reducible refine (HFi.out _ (Below.refl _ _)).mono ?_
  rintro e w1 ⟨⟨A1, n1, c1, rfl, hn1, _, _, hown1⟩, hb1⟩
  have HCh := Lib.hid (chosen_any (occ L P 0) n1 c1 A1 nth w1 ⟨ValsAt.of_own hown1, by have := HOl.out; have := HLn.out; omega⟩)
  have hb1z := hb1.size
  rw [← HC.out] at HCh
  clear hn1 hown1
  go_wp2_with fail
  with_reducible refine (HCh.out).mono ?_
  rintro e w2 ⟨⟨A2, n2, c2, rfl, hnq⟩, hb2⟩
  have HN2 := Lib.hid hnq
  have hb12 := hb1.trans (hb2.mono hb1z)
  have hb12z := hb12.size
  have hn2 : n2 ≤ 8796093022207 := hnq.2
  have HN2l := Lib.hid hnq.len
  have HOw := Lib.hid (own_empty w2 9 1)
  have hb0 := alloc_below w2 (.cells #[] 9)
  clear hnq
  go_wp2
  go_loopw [11, 12] (fun vo vi wr => ∃ (i q cc : Nat) (Av : Option Addr) (xs : List Str) (r : List Nat), i ≤ n ∧ vi = .int .i64 i ∧ vo = .slice Av q cc ∧ wr.ownsRow w2.heap.size 9 1 (.slice Av q cc) q (sv xs) ∧ Past L P F C i q xs r ∧ Below w2.heap.size w2 wr) (fun _ i _ => n - (intOf i).toNat)
  case atStart => exact ⟨0, 0, 0, some ⟨w2.heap.size, 0, none⟩, [], C, Nat.zero_le _, rfl, rfl, HOw.out, Past.start L P F C HCA.out, hb0⟩
  case round =>
    obtain ⟨i, q, cc, Av, xs, r, hin, rfl, rfl, hown, hpast, hb⟩ := hrel
    have HPa := Lib.hid hpast
    have hq := hpast.most
    have hbz := hb.size
    have HOwn := Lib.hid hown
    have hbw := hb12.trans (hb.mono hb12z)
    by_cases hlt : i < n
    · have HIn := Lib.hid (in_any C n2 c2 i A2 wr (HN2.out.below hb))
      obtain ⟨b, off, rfl, hB, hcell⟩ := HL.out.1.1.str hbw hlt
      by_cases hmem : i ∈ C
      · rw [decide_eq_true hmem] at HIn
        have hm0 : 0 < m := by
          rcases HPC.out with h | h
          · exact h
          · rw [h] at hmem; cases hmem
        have HY := Lib.hid (hpast.yes (by have := HLn.out; omega) hmem (by have := HFn.out; omega) (by have := HPn.out; omega))
        have HNw := Lib.hid (HF.out.1.1.below hbw)
        clear hown hpast hmem
        go_wp2_with fail
        with_reducible refine (HIn.out).mono ?_
        rintro e w3 ⟨rfl, rfl⟩
        go_wp2_with (at_builtin; refine wpList_append_vals _ rfl _ _ 22 rfl w2.heap.size 9 i0 (.string ⟨#[]⟩) 16 Try.underlying22 hi hz0 hz1 hz2 rfl _ _ _ rfl HOwn.out _ _ _ _ _ rfl HNw.out (sv_one _) (by unfold maxLen; omega) (by omega) hbz ?_)
        intro A' c' w4 hown' hgrow
        have hb4 := below_own HOwn.out hb hbz hgrow
        rw [← sv_app] at hown'
        have HO4 := Lib.hid hown'
        clear hown' hgrow
        go_wp2
        go_roundw
        case rel =>
          obtain ⟨r', hp', hle⟩ := HY.out
          have := HLn.out
          have hPn := HPn.out
          have hFn := HFn.out
          rw [hPn, hFn] at hp'
          exact ⟨i + m, q + f, c', A', xs ++ F, r', by omega, by go_num, rfl, HO4.out, hp', hb4⟩
        case measure => simp [intOf]; omega
      · rw [decide_eq_false hmem] at HIn
        have HN := Lib.hid (hpast.no (by have := HLn.out; omega) hmem)
        have HW : Hid (∀ W, Below wr.heap.size wr W → W.ownsRow w2.heap.size 9 1 (.slice Av q cc) q (sv xs)) := Lib.hid fun W h => own_below hown h
        clear hown hpast hmem
        go_wp2_with fail
        with_reducible refine (HIn.out).mono ?_
        rintro e w3 ⟨rfl, rfl⟩
        have HW1 := Lib.hid (HW.out _ (alloc_below wr (.cells #[.string (st L i)] 9)))
        go_wp2_with (at_builtin; refine wpList_append_own _ rfl _ _ 22 rfl w2.heap.size 9 i0 (.string ⟨#[]⟩) 1 16 Try.underlying22 hi hz0 hz1 hz2 rfl (by decide) _ _ _ rfl HW1.out ⟨wr.heap.size, 0, none⟩ 1 1 [.string (st L i)] rfl rfl ?c1 ?c2 ?c3 ?c4 ?c5 ?_)
        case c1 => exact fun j u hj => new_one wr _ _ j u hj
        case c2 => intro u hu; simp at hu; subst hu; rfl
        case c3 => unfold maxLen; omega
        case c4 => omega
        case c5 => simp; omega
        intro v' w4 hown' hgrow _
        have hb4 : Below w2.heap.size w2 w4 := below_own HW1.out (hb.trans ((alloc_below wr _).mono hbz)) (by simp; omega) hgrow
        obtain ⟨A4, c4, rfl, _⟩ := own_slice hown'
        have hown4 : w4.ownsRow w2.heap.size 9 1 (.slice A4 (q + 1) c4) (q + 1) (sv (xs ++ [st L i])) := by rw [sv_app]; exact hown'
        have HO4 := Lib.hid hown4
        clear hown' hgrow hown4
        go_wp2
        go_roundw
        case rel => exact ⟨i + 1, q + 1, c4, A4, xs ++ [st L i], r, by omega, by go_num, rfl, HO4.out, HN.out, hb4⟩
        case measure => simp [intOf]; omega
    · have hPC : 0 < P.length ∨ C = [] := by rw [HPn.out]; exact HPC.out
      have HLast := Lib.hid (hpast.last (by have := HLn.out; omega) hPC)
      have HS := Lib.hid (Sq.of_own hown (by omega))
      clear hown hpast hPC
      go_wp2
      go_ret2
      refine ⟨⟨Av, q, cc, ?_, ?_⟩, hbw⟩
      · unfold repl
        rw [← HC.out, HN2l.out]; rfl
      · unfold repl
        rw [← HC.out, ← HLast.out]; exact HS.out
end Go.Proofs.Ytphehcbjegfifaa
