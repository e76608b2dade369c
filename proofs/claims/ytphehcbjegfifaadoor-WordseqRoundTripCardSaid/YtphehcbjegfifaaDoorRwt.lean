/-
  The contracts of rewrite, Replace and InsertAfter.
-/
import Derived.Test.YtphehcbjegfifaaDoorRew
namespace Go.Proofs.YtphehcbjegfifaaDoor
open Go.RowKit (wrap32 wrap64 intOf Hid Below)
open Occ

/-- A sequence in memory: what has a capacity has an address. -/
def Sq (w : World) (A : Option Addr) (n c : Nat) (L : List Str) : Prop := Slc w.heap.size w A n c (sv L) ∧ (0 < c → ∃ b off, A = some ⟨b, off, none⟩)
theorem Sq.below {w w' : World} {A : Option Addr} {n c : Nat} {L : List Str} (h : Sq w A n c L) (hb : Below w.heap.size w w') : Sq w' A n c L :=
  ⟨⟨(h.1.1.below hb).mono hb.size, h.1.2.1, h.1.2.2.1, h.1.2.2.2.1, Nat.le_refl _⟩, h.2⟩
theorem Sq.len {w : World} {A : Option Addr} {n c : Nat} {L : List Str} (h : Sq w A n c L) : L.length = n := by
  have := h.1.1.1
  rwa [sv_len] at this
theorem Sq.of_own {w : World} {base n c : Nat} {e : TypeId} {A : Option Addr} {L : List Str} (h : w.ownsRow base e 1 (.slice A n c) n (sv L)) (hn : n ≤ 8796093022207) : Sq w A n c L := by
  refine ⟨⟨ValsAt.of_own h, ?_, ?_, hn, Nat.le_refl _⟩, ?_⟩
  · obtain ⟨_, _, he, h1, _⟩ := own_slice h
    injection he with _ _ h3
    omega
  · obtain ⟨_, _, he, _, h1⟩ := own_slice h
    injection he with _ _ h3
    omega
  · intro hc
    rcases h.2 with ⟨he, _⟩ | ⟨g, cap, cur, he, _⟩
    · injection he with _ _ h3
      omega
    · injection he with h1 _ _
      exact ⟨g, 0, h1⟩
theorem nt_head {O : List Nat} {k : Nat} (hk : k < O.length) : O[k] = nt O k := (nt_eq hk).symm

/-- What the loop of rewrite keeps, of plain lists. -/
structure Kept (L P F : List Str) (nth : Int) (k q cp ct : Nat) (xs : List Str) : Prop where
  len : xs.length = q
  most : q ≤ cp + 1000 * ct
  few : ct ≤ k
  rest : put L P.length F 0 (chosen (occ L P 0) nth) = xs ++ put L P.length F cp (left (occ L P 0) nth k)
  count : (chosen (occ L P 0) nth).length = ct + (left (occ L P 0) nth k).length
  spot : cp = 0 ∨ ∃ a ∈ (occ L P 0).take k, cp = a + P.length
theorem Kept.start (L P F : List Str) (nth : Int) : Kept L P F nth 0 0 0 0 [] :=
  ⟨rfl, by omega, by omega, by rw [left_zero]; rfl, by rw [left_zero]; omega, Or.inl rfl⟩
theorem Kept.ahead {L P F : List Str} {nth : Int} {k q cp ct : Nat} {xs : List Str} (h : Kept L P F nth k q cp ct xs) (hk : k < (occ L P 0).length) : cp ≤ nt (occ L P 0) k ∧ nt (occ L P 0) k + P.length ≤ L.length := by
  rw [nt_eq hk]
  refine ⟨?_, (Apart.mem (occ_apart L P 0) _ (List.getElem_mem hk)).2⟩
  rcases h.spot with h1 | ⟨a, ha, h1⟩
  · omega
  · have := Apart.ahead _ 0 k (occ_apart L P 0) hk a ha
    omega
theorem Kept.skip {L P F : List Str} {nth : Int} {k q cp ct : Nat} {xs : List Str} (h : Kept L P F nth k q cp ct xs) (hk : k < (occ L P 0).length) (h0 : nth ≠ 0) (h1 : nth ≠ (k : Int) + 1) : Kept L P F nth (k + 1) q cp ct xs := by
  refine ⟨h.len, h.most, by have := h.few; omega, by rw [← left_skip _ _ _ h0 h1]; exact h.rest, by rw [← left_skip _ _ _ h0 h1]; exact h.count, ?_⟩
  rcases h.spot with h2 | ⟨a, ha, h2⟩
  · exact Or.inl h2
  · exact Or.inr ⟨a, by rw [List.take_succ_eq_append_getElem hk]; exact List.mem_append_left _ ha, h2⟩
theorem Kept.take {L P F : List Str} {nth : Int} {k q cp ct : Nat} {xs : List Str} (h : Kept L P F nth k q cp ct xs) (hk : k < (occ L P 0).length) (h0 : nth = 0 ∨ nth = (k : Int) + 1) (hF : F.length ≤ 1000) :
    Kept L P F nth (k + 1) (q + (nt (occ L P 0) k - cp) + F.length) (nt (occ L P 0) k + P.length) (ct + 1) (xs ++ (L.drop cp).take (nt (occ L P 0) k - cp) ++ F) := by
  obtain ⟨h1, h2⟩ := h.ahead hk
  have e := left_take _ _ _ hk h0
  rw [nt_head hk] at e
  refine ⟨?_, ?_, by have := h.few; omega, ?_, ?_, Or.inr ⟨_, ?_, rfl⟩⟩
  · rw [List.length_append, List.length_append, List.length_take, List.length_drop, h.len]
    omega
  · have := h.most; omega
  · rw [h.rest, e, put, List.drop_take]
    simp
  · rw [h.count, e, List.length_cons]; omega
  · rw [List.take_succ_eq_append_getElem hk, nt_head hk]
    exact List.mem_append_right _ (List.mem_singleton.2 rfl)
theorem Kept.last {L P F : List Str} {nth : Int} {k q cp ct : Nat} {xs : List Str} (h : Kept L P F nth k q cp ct xs) (hk : k = (occ L P 0).length) : xs ++ L.drop cp = (put L P.length F 0 (chosen (occ L P 0) nth)) ∧ ct = (chosen (occ L P 0) nth).length := by
  subst hk
  constructor
  · rw [h.rest, left_end]; rfl
  · have := h.count; rw [left_end] at this; simpa using this.symm
theorem Kept.short {L P F : List Str} {nth : Int} {k q cp ct : Nat} {xs : List Str} (h : Kept L P F nth k q cp ct xs) : cp ≤ L.length := by
  rcases h.spot with h1 | ⟨a, ha, h1⟩
  · omega
  · have := (Apart.mem (occ_apart L P 0) a (List.mem_of_mem_take ha)).2
    omega

set_option maxHeartbeats 4000000 in
set_option maxRecDepth 100000 in
theorem rewrite_any (L P F : List Str) (n m c d : Nat) (A D : Option Addr) (nth : Int) (g : FuncId) (lb : Array Value) (w : World) (hl : Sq w A n c L) (hp : Sq w D m d P) (hn : n ≤ 100000) (hF : F.length ≤ 1000)
    (eg : ∀ args w, (callFunc g args).run Tryd.prog w = .ok (.enter g args) w) (hact : Appends w g lb F) :
    Calls Tryd.prog 23 #[.slice A n c, .slice D m d, .int .i64 nth, .func (.func g) #[] lb] w fun e w' => ∃ A' n' c', e = .returned (.tuple #[.slice A' n' c', .int .i64 ((repl L P F nth).2 : Nat)]) ∧ Sq w' A' n' c' (repl L P F nth).1 ∧ Below w.heap.size w w' := by
  obtain ⟨i0, hi, hz0, hz1, hz2⟩ := info_parts info_str
  have HFA := Lib.hid (findall_any L P w.heap.size n m c d A D w hl.1 hp.1)
  have HLn := Lib.hid hl.len
  have HPn := Lib.hid hp.len
  have HOl := Lib.hid (occ_len L P)
  have hnc := hl.1.2.1
  have hcm := hl.1.2.2.1
  have HL := Lib.hid hl
  have HAct := Lib.hid hact
  have hmm := hp.1.2.2.2.1
  clear hl hp hact
  go_enter Tryd.func23, Tryd.ntmps23
  go_wp2_with (go_at_call 14; ((with_reducible refine (HFA.out).mono ?_); rintro e w1 ⟨⟨A1, n1, c1, rfl, hn1, _, _, hown1⟩, hb1⟩; have HN1 := Lib.hid hn1; have HV1 := Lib.hid (ValsAt.of_own hown1); clear hn1 hown1))
  have hb1z := hb1.size
  have hn1n : n1 ≤ n := by have := HN1.out; have := HOl.out; have := HLn.out; omega
  go_loopw [10, 11, 12, 19] (fun vo vc vp vi wr => ∃ (k q cc cp ct : Nat) (Av : Option Addr) (xs : List Str), k ≤ n1 ∧ vi = .int .i64 k ∧ vc = .int .i64 ct ∧ vp = .int .i64 cp ∧ vo = .slice Av q cc ∧ wr.ownsRow w1.heap.size 9 1 (.slice Av q cc) q (sv xs) ∧ Kept L P F nth k q cp ct xs ∧ Below w1.heap.size w1 wr) (fun _ _ _ i _ => n1 - (intOf i).toNat)
  case atStart => exact ⟨0, 0, 0, 0, 0, none, [], Nat.zero_le _, rfl, rfl, rfl, rfl, ⟨by simp [sv], Or.inl ⟨rfl, rfl⟩⟩, Kept.start L P F nth, Below.refl _ _⟩
  case round =>
    obtain ⟨k, q, cc, cp, ct, Av, xs, hk, rfl, rfl, rfl, rfl, hown, hkept, hb⟩ := hrel
    have HK := Lib.hid hkept
    have hbz := hb.size
    have hq1 : q ≤ cp + 1000 * ct := hkept.most
    have hct : ct ≤ k := hkept.few
    have hcp : cp ≤ n := by have := hkept.short; have := HLn.out; omega
    by_cases hlt : k < n1
    · obtain ⟨b', off', rfl, hB', hcell⟩ := HV1.out.num hb hlt
      have hko : k < (occ L P 0).length := by have := HN1.out; omega
      have HKO := Lib.hid hko
      obtain ⟨hah1, hah2⟩ := hkept.ahead hko
      have hm0 : 0 < m := by
        rcases Nat.eq_zero_or_pos m with h | h
        · have hP0 : P = [] := List.eq_nil_of_length_eq_zero (by have := HPn.out; omega)
          rw [hP0, occ_nil] at hko
          simp at hko
        · exact h
      obtain ⟨a, ha⟩ : ∃ a, a = nt (occ L P 0) k := ⟨_, rfl⟩
      have HA := Lib.hid ha
      rw [← ha] at hcell hah1 hah2
      have ham : a + m ≤ n := by have := HPn.out; have := HLn.out; omega
      by_cases hskip : nth ≠ 0 ∧ nth ≠ (k : Int) + 1
      · have HOwn := Lib.hid hown
        have HKs := Lib.hid (HK.out.skip HKO.out hskip.1 hskip.2)
        have e1 : (nth == 0) = false := by simpa using hskip.1
        have e2 : (nth == (k : Int) + 1) = false := by simpa using hskip.2
        have e3 : (nth != 0) = true := by simpa using hskip.1
        have e4 : (nth != (k : Int) + 1) = true := by simpa using hskip.2
        clear hown hkept ha hah2 hko hskip
        go_wp2
        go_roundw
        case rel => exact ⟨k + 1, q, cc, cp, ct, Av, xs, by omega, by go_num, rfl, rfl, rfl, HOwn.out, HKs.out, hb⟩
        case measure => simp [intOf]; omega
      · have hnth : nth = 0 ∨ nth = (k : Int) + 1 := by
          by_cases h : nth = 0
          · exact Or.inl h
          · exact Or.inr (Classical.byContradiction fun h2 => hskip ⟨h, h2⟩)
        have hkt := HK.out.take HKO.out hnth hF
        rw [← ha] at hkt
        have HKt := Lib.hid hkt
        obtain ⟨b, off, hA, _⟩ := HL.out.1.1.addr (by omega)
        subst hA
        have HNews : Hid (∀ W, Below w.heap.size w W → ValsAt w.heap.size W (some ⟨b, off + cp, none⟩) (a - cp) (sv ((L.drop cp).take (a - cp)))) := Lib.hid fun W hW => by
          rw [← sv_cut]
          exact (HL.out.1.1.below hW).cut cp (a - cp) (by omega)
        have HOwn := Lib.hid hown
        have hbw := hb1.trans (hb.mono hb1z)
        have HNw := Lib.hid (HNews.out _ hbw)
        have HCall : Hid (∀ W A' c', wr.heap.size ≤ W.heap.size → Below w1.heap.size w1 W → W.ownsRow w1.heap.size 9 1 (.slice A' (q + (a - cp)) c') (q + (a - cp)) (sv (xs ++ (L.drop cp).take (a - cp))) →
          Calls Tryd.prog g (#[.slice A' (q + (a - cp)) c'] ++ lb) W fun e w' => ∃ A'' c'', e = .returned (.slice A'' (q + (a - cp) + F.length) c'') ∧ w'.ownsRow w1.heap.size 9 1 (.slice A'' (q + (a - cp) + F.length) c'') (q + (a - cp) + F.length) (sv (xs ++ (L.drop cp).take (a - cp) ++ F)) ∧ Below w1.heap.size w1 w') := Lib.hid fun W A' c' h1 h2 h3 =>
            (HAct.out w1.heap.size W A' c' (q + (a - cp)) _ hb1z h2.size (hb1.trans (h2.mono hb1z)) (by omega) h3).mono fun _ _ ⟨A'', c'', he, ho, hbb⟩ => ⟨A'', c'', he, ho, h2.trans hbb⟩
        clear hown hkept ha hah2 hko hskip hkt
        have hslc : ¬ c = cp := by omega
        rcases hnth with rfl | rfl
        all_goals
          go_wp2_with (at_builtin; refine wpList_append_vals _ rfl _ _ 23 rfl w1.heap.size 9 i0 (.string ⟨#[]⟩) 16 Tryd.underlying23 hi hz0 hz1 hz2 rfl _ _ _ rfl HOwn.out _ _ _ _ _ rfl HNw.out (sv_one _) (by unfold maxLen; omega) (by omega) hbz ?_)
          intro A' c' w2 hown' hgrow
          have hb2 := below_own HOwn.out hb hbz hgrow
          rw [← sv_app] at hown'
          have HC := Lib.hid (HCall.out w2 A' c' hgrow.size hb2 hown')
          clear hown' hgrow
          go_wp2_with fail
          with_reducible refine (HC.out).mono ?_
          rintro e w3 ⟨A3, c3, rfl, hown3, hb3⟩
          have HO3 := Lib.hid hown3
          clear hown3
          go_wp2
          go_roundw
          case rel => exact ⟨k + 1, q + (a - cp) + F.length, c3, a + P.length, ct + 1, A3, xs ++ (L.drop cp).take (a - cp) ++ F, by omega, by go_num, by go_num, by rw [HPn.out]; go_num, rfl, HO3.out, HKt.out, hb3⟩
          case measure => simp [intOf]; omega
    · have HOwn := Lib.hid hown
      have hkl : k = (occ L P 0).length := by have := HN1.out; omega
      have HLast := Lib.hid (hkept.last hkl)
      clear hown hkept hkl
      have hbw := hb1.trans (hb.mono hb1z)
      by_cases hcc : c = cp
      · subst hcc
        obtain rfl : n = c := by omega
        have HNw : Hid (ValsAt w.heap.size wr A 0 (sv (L.drop n))) := Lib.hid (by rw [List.drop_of_length_le (by have := HLn.out; omega)]; exact ValsAt.nil _ _ _)
        go_wp2_with (at_builtin; refine wpList_append_vals _ rfl _ _ 23 rfl w1.heap.size 9 i0 (.string ⟨#[]⟩) 16 Tryd.underlying23 hi hz0 hz1 hz2 rfl _ _ _ rfl HOwn.out _ _ _ _ _ rfl HNw.out (sv_one _) (by unfold maxLen; omega) (by omega) hbz ?_)
        intro A' c' w2 hown' hgrow
        have hb2 := below_own HOwn.out hb hbz hgrow
        rw [← sv_app] at hown'
        have HS := Lib.hid (Sq.of_own hown' (by omega))
        clear hown' hgrow
        go_wp2
        go_ret2
        obtain ⟨hl1, hl2⟩ := HLast.out
        refine ⟨A', q, c', ?_, ?_, hb1.trans (hb2.mono hb1z)⟩
        · unfold repl; rw [← hl2]; rfl
        · unfold repl; rw [← hl1]; exact HS.out
      · have hAS := HL.out.2 (by omega)
        obtain ⟨b, off, rfl⟩ := hAS
        have HNw : Hid (ValsAt w.heap.size wr (some ⟨b, off + cp, none⟩) (n - cp) (sv (L.drop cp))) := Lib.hid (by
          have h := (HL.out.1.1.below hbw).cut cp (n - cp) (by omega)
          rw [sv_cut, List.take_of_length_le (by rw [List.length_drop]; have := HLn.out; omega)] at h
          exact h)
        go_wp2_with (at_builtin; refine wpList_append_vals _ rfl _ _ 23 rfl w1.heap.size 9 i0 (.string ⟨#[]⟩) 16 Tryd.underlying23 hi hz0 hz1 hz2 rfl _ _ _ rfl HOwn.out _ _ _ _ _ rfl HNw.out (sv_one _) (by unfold maxLen; omega) (by omega) hbz ?_)
        intro A' c' w2 hown' hgrow
        have hb2 := below_own HOwn.out hb hbz hgrow
        rw [← sv_app] at hown'
        have HS := Lib.hid (Sq.of_own hown' (by omega))
        clear hown' hgrow
        go_wp2
        go_ret2
        obtain ⟨hl1, hl2⟩ := HLast.out
        refine ⟨A', q + (n - cp), c', ?_, ?_, hb1.trans (hb2.mono hb1z)⟩
        · unfold repl; rw [← hl2]; rfl
        · unfold repl; rw [← hl1]; exact HS.out
end Go.Proofs.YtphehcbjegfifaaDoor
