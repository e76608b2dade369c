/-
  The contracts of the program's Split, of the reference's Pieces and Split.
-/
import Derived.Test.YtphehcbjegfifaaDoorPcs
namespace Go.Proofs.YtphehcbjegfifaaDoor
open Go.RowKit (wrap32 wrap64 intOf Hid Below)
open Occ

theorem sq_nil (w : World) : Sq w none 0 0 [] := ⟨⟨ValsAt.nil _ _ _, by omega, by omega, by omega, Nat.le_refl _⟩, fun h => absurd h (by omega)⟩

set_option maxHeartbeats 1000000 in
theorem wsplit_any (s : Str) (w : World) (hE : EnvW w) (hs : s.size ≤ 100000) :
    Calls Tryd.prog 6 #[.string s] w fun e w' => SpRet s e w' ∧ Below w.heap.size w w' := by
  have hb0 := Below.refl w.heap.size w
  have HNil : Hid (∀ W : World, Sq W none 0 0 []) := Lib.hid fun W => sq_nil W
  by_cases h0 : s = ⟨#[]⟩
  · subst h0
    have hp : pieces ⟨#[]⟩ = [] := if_pos rfl
    have HC := Lib.hid (code_good (s := ⟨#[]⟩) (by rw [hp]; rfl) (by rw [hp]; decide))
    have HP := Lib.hid hp
    have hE0 := str_eq ⟨#[]⟩ ⟨#[]⟩
    rw [decide_eq_true rfl] at hE0
    clear hE hp
    go_enter Tryd.func6, Tryd.ntmps6
    go_wp2
    go_ret2
    exact ⟨⟨none, 0, 0, by rw [HC.out.1]; rfl, by rw [HC.out.2, HP.out]; exact HNil.out w⟩, hb0⟩
  · have hp : pieces s = pcs s := if_neg h0
    have HSp := Lib.hid (ssplit_any s w hE (by omega))
    rw [← hp] at HSp
    have hE1 := str_eq s ⟨#[]⟩
    rw [decide_eq_false h0] at hE1
    have hE2 : s.toList.isEmpty = false := by
      rw [ByteArray.toList_eq]
      cases h : s.data.toList with
      | nil => exact absurd (eq_mkB h) h0
      | cons x l => rfl
    clear hE hp h0
    go_enter Tryd.func6, Tryd.ntmps6
    go_wp2_with fail
    with_reducible refine (HSp.out).mono ?_
    rintro e w1 ⟨⟨A, n, c, rfl, hsq⟩, hb1⟩
    have HQ := Lib.hid hsq
    have HAl := Lib.hid (allwords_any (pieces s) n c A w1 hsq)
    have HLn := Lib.hid hsq.len
    have hn := hsq.1.2.2.2.1
    clear hsq
    cases ha : (pieces s).all wordB with
    | false =>
      have HC := Lib.hid (code_bad ha)
      rw [ha] at HAl
      clear ha
      go_wp2_with (go_at_call 18; ((with_reducible refine (HAl.out).mono ?_); rintro e w2 ⟨rfl, rfl⟩))
      go_ret2
      exact ⟨⟨none, 0, 0, by rw [HC.out.1]; rfl, by rw [HC.out.2]; exact HNil.out _⟩, hb1⟩
    | true =>
      rw [ha] at HAl
      by_cases h256 : 256 < n
      · have HC := Lib.hid (code_many ha (by rw [HLn.out]; exact h256))
        clear ha
        go_wp2_with (go_at_call 18; ((with_reducible refine (HAl.out).mono ?_); rintro e w2 ⟨rfl, rfl⟩))
        go_ret2
        exact ⟨⟨none, 0, 0, by rw [HC.out.1]; rfl, by rw [HC.out.2]; exact HNil.out _⟩, hb1⟩
      · have HC := Lib.hid (code_good ha (by rw [HLn.out]; exact h256))
        clear ha
        go_wp2_with (go_at_call 18; ((with_reducible refine (HAl.out).mono ?_); rintro e w2 ⟨rfl, rfl⟩))
        go_ret2
        exact ⟨⟨A, n, c, by rw [HC.out.1]; rfl, by rw [HC.out.2]; exact HQ.out⟩, hb1⟩

/-- How far the cutting has come. -/
def Cut (s : List UInt8) (f i : Nat) (O : List (List UInt8)) : Prop := f ≤ i ∧ (∀ p ∈ O, (32 : UInt8) ∉ p) ∧
  ((i ≤ s.length ∧ s.take f = flat O ∧ f ≤ s.length ∧ (32 : UInt8) ∉ (s.drop f).take (i - f)) ∨ (i = s.length + 1 ∧ ∃ P x, O = P ++ [x] ∧ s = flat P ++ x))
theorem Cut.start (s : List UInt8) : Cut s 0 0 [] := ⟨Nat.le_refl _, by simp, Or.inl ⟨Nat.zero_le _, rfl, Nat.zero_le _, by simp⟩⟩
theorem drop_step {s : List UInt8} {f i : Nat} (hf : f ≤ i) (hi : i < s.length) : (s.drop f).take (i + 1 - f) = (s.drop f).take (i - f) ++ [s.getD i 0] := by
  rw [show i + 1 - f = (i - f) + 1 by omega, List.take_succ_eq_append_getElem (by rw [List.length_drop]; omega), List.getElem_drop, List.getD, List.getElem?_eq_getElem hi]
  congr 2
  simp only [Option.getD_some]
  congr 1
  omega
theorem Cut.no {s : List UInt8} {f i : Nat} {O : List (List UInt8)} (h : Cut s f i O) (hi : i < s.length) (hc : s.getD i 0 ≠ 32) : Cut s f (i + 1) O := by
  obtain ⟨h1, h2, h3 | h3⟩ := h
  · refine ⟨by omega, h2, Or.inl ⟨by omega, h3.2.1, h3.2.2.1, ?_⟩⟩
    rw [drop_step h1 hi]
    intro hm
    rcases List.mem_append.1 hm with hm | hm
    · exact h3.2.2.2 hm
    · exact hc (List.mem_singleton.1 hm).symm
  · omega
theorem Cut.sp {s : List UInt8} {f i : Nat} {O : List (List UInt8)} (h : Cut s f i O) (hi : i < s.length) (hc : s.getD i 0 = 32) : Cut s (i + 1) (i + 1) (O ++ [(s.drop f).take (i - f)]) := by
  obtain ⟨h1, h2, h3 | h3⟩ := h
  · obtain ⟨h4, h5, h6, h7⟩ := h3
    refine ⟨Nat.le_refl _, fun p hp => ?_, Or.inl ⟨by omega, ?_, by omega, by simp⟩⟩
    · rcases List.mem_append.1 hp with h | h
      · exact h2 p h
      · rw [List.mem_singleton.1 h]; exact h7
    · rw [flat_snoc, ← h5]
      have e : s.take (i + 1) = s.take f ++ (s.drop f).take (i + 1 - f) := by
        conv => lhs; rw [show i + 1 = f + (i + 1 - f) by omega, List.take_add]
      rw [e, drop_step h1 hi, hc]
  · omega
theorem Cut.last {s : List UInt8} {f : Nat} {O : List (List UInt8)} (h : Cut s f s.length O) : Cut s (s.length + 1) (s.length + 1) (O ++ [(s.drop f).take (s.length - f)]) := by
  obtain ⟨h1, h2, h3 | h3⟩ := h
  · obtain ⟨h4, h5, h6, h7⟩ := h3
    refine ⟨Nat.le_refl _, fun p hp => ?_, Or.inr ⟨rfl, O, _, rfl, ?_⟩⟩
    · rcases List.mem_append.1 hp with h | h
      · exact h2 p h
      · rw [List.mem_singleton.1 h]; exact h7
    · rw [← h5, show (s.drop f).take (s.length - f) = s.drop f from List.take_of_length_le (by rw [List.length_drop]; omega), List.take_append_drop]
  · omega
theorem Cut.done {s : List UInt8} {f : Nat} {O : List (List UInt8)} (h : Cut s f (s.length + 1) O) : O = Lib.split s [32] := by
  obtain ⟨h1, h2, h3 | h3⟩ := h
  · omega
  · obtain ⟨_, P, x, rfl, hs⟩ := h3
    have hf : Falls s P x := ⟨hs, fun p hp => h2 p (List.mem_append_left _ hp), h2 x (by simp)⟩
    exact hf.split.symm
theorem ext_mid (s : Str) (f i : Nat) : s.extract f i = mkB ((s.data.toList.drop f).take (i - f)) := by
  apply eq_mkB
  rw [ByteArray.data_extract, Array.toList_extract]
theorem sizeL (s : Str) : s.data.toList.length = s.size := by simp

set_option maxHeartbeats 2000000 in
theorem pieces_any (s : Str) (w : World) (hs : s.size ≤ 100000) :
    Calls Tryd.prog 19 #[.string s] w fun e w' => CutRet (pieces s) e w' ∧ Below w.heap.size w w' := by
  obtain ⟨i0, hi, hz0, hz1, hz2⟩ := info_parts info_str
  have HOw := Lib.hid (own_empty w 9 1)
  have hb0 := alloc_below w (.cells #[] 9)
  by_cases h0 : s = ⟨#[]⟩
  · subst h0
    have HP : Hid (pieces ⟨#[]⟩ = []) := Lib.hid (if_pos rfl)
    have hE0 := str_eq ⟨#[]⟩ ⟨#[]⟩
    rw [decide_eq_true rfl] at hE0
    go_enter Tryd.func19, Tryd.ntmps19
    go_wp2
    go_ret
    exact ⟨⟨_, 0, 0, rfl, by rw [HP.out]; exact Sq.of_own HOw.out (by omega)⟩, hb0⟩
  · have hp : pieces s = pcs s := if_neg h0
    have HFin : Hid (∀ O : List (List UInt8), O = Lib.split s.data.toList [32] → O.map mkB = pieces s) := Lib.hid fun O hO => by
      rw [hp]
      apply map_inj
      rw [pcs_list, ← hO, List.map_map]
      exact List.map_id' _
    have hE1 := str_eq s ⟨#[]⟩
    rw [decide_eq_false h0] at hE1
    have hE2 : s.toList.isEmpty = false := by
      rw [ByteArray.toList_eq]
      cases h : s.data.toList with
      | nil => exact absurd (eq_mkB h) h0
      | cons x l => rfl
    have HSz := Lib.hid (sizeL s)
    clear hp h0
    go_enter Tryd.func19, Tryd.ntmps19
    go_wp2
    go_loopw [3, 4, 5] (fun vo vf vi wr => ∃ (i f q c : Nat) (A : Option Addr) (O : List (List UInt8)), i ≤ s.size + 1 ∧ q ≤ i ∧ vi = .int .i64 i ∧ vf = .int .i64 f ∧ vo = .slice A q c ∧ Cut s.data.toList f i O ∧ wr.ownsRow w.heap.size 9 1 (.slice A q c) q (sv (O.map mkB)) ∧ Below w.heap.size w wr) (fun _ _ i _ => s.size + 1 - (intOf i).toNat)
    case atStart => exact ⟨0, 0, 0, 0, some ⟨w.heap.size, 0, none⟩, [], Nat.zero_le _, Nat.le_refl _, rfl, rfl, rfl, Cut.start _, HOw.out, hb0⟩
    case round =>
      obtain ⟨i, f, q, c, A, O, hin, hqi, rfl, rfl, rfl, hcut, hown, hb⟩ := hrel
      have HC := Lib.hid hcut
      have hfi := hcut.1
      have hbz := hb.size
      have HOwn := Lib.hid hown
      have HW : Hid (∀ W, Below wr.heap.size wr W → W.ownsRow w.heap.size 9 1 (.slice A q c) q (sv (O.map mkB))) := Lib.hid fun W h => own_below hown h
      clear hcut hown
      by_cases hle : i ≤ s.size
      · have HX := Lib.hid (ext_mid s f i)
        obtain ⟨X, hX⟩ : ∃ X, X = s.extract f i := ⟨_, rfl⟩
        have hXr : s.extract f i = X := hX.symm
        rw [← hX] at HX
        have HW1 := Lib.hid (HW.out _ (alloc_below wr (.cells #[.string X] 9)))
        by_cases hend : i = s.size
        · subst hend
          have HN : Hid (Cut s.data.toList (s.size + 1) (s.size + 1) (O ++ [(s.data.toList.drop f).take (s.size - f)])) := Lib.hid (by
            have h := HC.out
            rw [← HSz.out] at h ⊢
            exact h.last)
          clear hX
          go_wp2_with (at_builtin; refine wpList_append_own _ rfl _ _ 23 rfl w.heap.size 9 i0 (.string ⟨#[]⟩) 1 16 Tryd.underlying23 hi hz0 hz1 hz2 rfl (by decide) _ _ _ rfl HW1.out ⟨wr.heap.size, 0, none⟩ 1 1 [.string X] rfl rfl ?c1 ?c2 ?c3 ?c4 ?c5 ?_)
          case c1 => exact fun j u hj => new_one wr _ _ j u hj
          case c2 => intro u hu; simp at hu; subst hu; rfl
          case c3 => unfold maxLen; omega
          case c4 => omega
          case c5 => simp; omega
          intro v' w4 hown' hgrow _
          have hb4 : Below w.heap.size w w4 := below_own HW1.out (hb.trans ((alloc_below wr _).mono hbz)) (by simp; omega) hgrow
          obtain ⟨A4, c4, rfl, _⟩ := own_slice hown'
          have hown4 : w4.ownsRow w.heap.size 9 1 (.slice A4 (q + 1) c4) (q + 1) (sv ((O ++ [(s.data.toList.drop f).take (s.size - f)]).map mkB)) := by rw [List.map_append, sv_app, List.map_singleton, ← HX.out]; exact hown'
          have HO4 := Lib.hid hown4
          clear hown' hgrow hown4
          go_wp2
          go_roundw
          case rel => exact ⟨s.size + 1, s.size + 1, q + 1, c4, A4, _, by omega, by omega, by go_num, by go_num, rfl, HN.out, HO4.out, hb4⟩
          case measure => first | (simp [intOf]; done) | (simp [intOf]; omega)
        · have hlt : i < s.size := by omega
          have hg : s.data.toList.getD i 0 = s[i] := by rw [List.getD, List.getElem?_eq_getElem (by simpa using hlt)]; rfl
          have hne : ((i : Int) == (s.size : Int)) = false := by rw [beq_eq_false_iff_ne]; omega
          by_cases h32 : s[i] = 32
          · have HN : Hid (Cut s.data.toList (i + 1) (i + 1) (O ++ [(s.data.toList.drop f).take (i - f)])) := Lib.hid (HC.out.sp (by rw [HSz.out]; exact hlt) (by rw [hg, h32]))
            have e32 : ((s[i].toNat : Int) == 32) = true := by rw [h32]; decide
            clear hX h32 hg
            go_wp2_with (at_builtin; refine wpList_append_own _ rfl _ _ 23 rfl w.heap.size 9 i0 (.string ⟨#[]⟩) 1 16 Tryd.underlying23 hi hz0 hz1 hz2 rfl (by decide) _ _ _ rfl HW1.out ⟨wr.heap.size, 0, none⟩ 1 1 [.string X] rfl rfl ?c1 ?c2 ?c3 ?c4 ?c5 ?_)
            case c1 => exact fun j u hj => new_one wr _ _ j u hj
            case c2 => intro u hu; simp at hu; subst hu; rfl
            case c3 => unfold maxLen; omega
            case c4 => omega
            case c5 => simp; omega
            intro v' w4 hown' hgrow _
            have hb4 : Below w.heap.size w w4 := below_own HW1.out (hb.trans ((alloc_below wr _).mono hbz)) (by simp; omega) hgrow
            obtain ⟨A4, c4, rfl, _⟩ := own_slice hown'
            have hown4 : w4.ownsRow w.heap.size 9 1 (.slice A4 (q + 1) c4) (q + 1) (sv ((O ++ [(s.data.toList.drop f).take (i - f)]).map mkB)) := by rw [List.map_append, sv_app, List.map_singleton, ← HX.out]; exact hown'
            have HO4 := Lib.hid hown4
            clear hown' hgrow hown4
            go_wp2
            go_roundw
            case rel => exact ⟨i + 1, i + 1, q + 1, c4, A4, _, by omega, by omega, by go_num, by go_num, rfl, HN.out, HO4.out, hb4⟩
            case measure => first | (simp [intOf]; done) | (simp [intOf]; omega)
          · have HN := Lib.hid (HC.out.no (by rw [HSz.out]; exact hlt) (by rw [hg]; exact h32))
            have e32 : ((s[i].toNat : Int) == 32) = false := by
              rw [beq_eq_false_iff_ne]
              intro hh
              apply h32
              apply UInt8.toNat_inj.1
              have : (32 : UInt8).toNat = 32 := rfl
              omega
            clear hX hXr h32 hg
            go_wp2
            go_roundw
            case rel => exact ⟨i + 1, f, q, c, A, O, by omega, by omega, by go_num, rfl, rfl, HN.out, HOwn.out, hb⟩
            case measure => first | (simp [intOf]; done) | (simp [intOf]; omega)
      · obtain rfl : i = s.size + 1 := by omega
        have HD : Hid (O.map mkB = pieces s) := Lib.hid (HFin.out O (by have h := HC.out; rw [← HSz.out] at h; exact h.done))
        have HSq : Hid (Sq wr A q c (O.map mkB)) := Lib.hid (Sq.of_own HOwn.out (by omega))
        go_wp2
        go_ret
        exact ⟨⟨A, q, c, rfl, by rw [← HD.out]; exact HSq.out⟩, hb⟩
end Go.Proofs.YtphehcbjegfifaaDoor
