/-
  The texts of sequences: the contracts of Text and Join.
-/
import Derived.Test.YtphehcbjegfifaaWrd
import Derived.Test.YtphehcbjegfifaaShelf
namespace Go.Proofs.Ytphehcbjegfifaa
open Go.RowKit (wrap32 wrap64 intOf Hid Below)
open Occ

/-- The text of a sequence. -/
def joinB (L : List Str) : List UInt8 := Lib.join (L.map (·.data.toList)) [32]
def mkB (l : List UInt8) : Str := ⟨l.toArray⟩
theorem mkB_list (l : List UInt8) : (mkB l).data.toList = l := rfl
theorem eq_mkB {a : Str} {l : List UInt8} (h : a.data.toList = l) : a = mkB l := by
  subst h
  cases a
  rfl
theorem cat_list (a b : Str) : (a ++ b).data.toList = a.data.toList ++ b.data.toList := by
  rw [ByteArray.data_append, Array.toList_append]
theorem join_first {L : List Str} (h : 0 < L.length) : joinB (L.take 1) = (st L 0).data.toList := by
  cases L with
  | nil => simp at h
  | cons x r =>
    unfold joinB
    show Lib.join [x.data.toList] [32] = _
    rw [Lib.join_one]
    rfl
theorem join_next {L : List Str} {k : Nat} (h0 : 0 < k) (hk : k < L.length) : joinB (L.take (k + 1)) = joinB (L.take k) ++ [32] ++ (st L k).data.toList := by
  cases L with
  | nil => simp at hk
  | cons x r =>
    obtain ⟨j, rfl⟩ : ∃ j, k = j + 1 := ⟨k - 1, by omega⟩
    have hj : j < r.length := by simpa using hk
    unfold joinB
    rw [List.take_succ_cons, List.take_succ_cons, List.map_cons, List.map_cons, Lib.join_cons, Lib.join_cons, List.map_take, List.map_take]
    have hy : (r.map (·.data.toList))[j]? = some (st (x :: r) (j + 1)).data.toList := by
      rw [List.getElem?_map, List.getElem?_eq_getElem hj, st_eq hk]
      rfl
    rw [Lib.joinTail_take_succ _ _ _ _ hy]
    simp
theorem join_most {L : List Str} (h : ∀ j, j < L.length → (st L j).size ≤ 24) : ∀ k, k ≤ L.length → (joinB (L.take k)).length ≤ 25 * k
  | 0, _ => by simp [joinB, Lib.join_nil]
  | 1, hk => by
    rw [join_first (by omega)]
    have := h 0 (by omega)
    simp; omega
  | k + 2, hk => by
    have ih := join_most h (k + 1) (by omega)
    rw [join_next (by omega) (by omega), List.length_append, List.length_append]
    have := h (k + 1) (by omega)
    simp; omega
theorem word_small {s : Str} (h : wordB s = true) : s.size ≤ 24 := by
  unfold wordB at h
  rw [Bool.and_eq_true, decide_eq_true_eq] at h
  exact h.1.2
theorem may_parts {L : List Str} (h : mayB L = true) : L.length ≤ 256 ∧ ∀ j, j < L.length → (st L j).size ≤ 24 := by
  unfold mayB at h
  rw [Bool.and_eq_true, decide_eq_true_eq, List.all_eq_true] at h
  exact ⟨h.1, fun j hj => word_small (h.2 _ (by rw [st_eq hj]; exact List.getElem_mem _))⟩
theorem cat_run (a b : ByteArray) (h : a.size + b.size ≤ 1000000) : Op.stringOp .add a b = pure (.string (a ++ b)) := by
  have hm : IntKind.i64.max = 9223372036854775807 := rfl
  unfold Op.stringOp
  simp only
  rw [if_neg (by rw [hm]; omega)]

set_option maxHeartbeats 2000000 in
theorem text_any (L : List Str) (n c : Nat) (A : Option Addr) (w : World) (hl : Sq w A n c L) (hm : mayB L = true) :
    Calls Try.prog 12 #[.slice A n c] w fun e w' => e = .returned (.string (mkB (joinB L))) ∧ w = w' := by
  have HL := Lib.hid hl
  have HLn := Lib.hid hl.len
  obtain ⟨h256, h24⟩ := may_parts hm
  have hn : n ≤ 256 := by rw [← hl.len]; exact h256
  have HMost := Lib.hid (join_most h24)
  have H24 := Lib.hid h24
  clear hl hm h24 h256
  go_enter Try.func12, Try.ntmps12
  go_wp2
  go_loop [3, 4] (fun s i => ∃ k : Nat, k ≤ n ∧ i = .int .i64 k ∧ s = .string (mkB (joinB (L.take k)))) (fun _ i => n - (intOf i).toNat)
  case atStart => exact ⟨0, Nat.zero_le _, rfl, rfl⟩
  case round =>
    obtain ⟨k, hk, rfl, rfl⟩ := hrel
    by_cases hlt : k < n
    · obtain ⟨b, off, rfl, hB, hcell⟩ := HL.out.1.1.str (Below.refl _ _) hlt
      have hms := HMost.out k (by rw [HLn.out]; exact hk)
      have h24 := H24.out k (by rw [HLn.out]; exact hlt)
      obtain ⟨E, hE⟩ : ∃ E, E = st L k := ⟨_, rfl⟩
      rw [← hE] at hcell h24
      obtain ⟨J, hJ⟩ : ∃ J, J = mkB (joinB (L.take k)) := ⟨_, rfl⟩
      have hJs : J.size ≤ 6400 := by rw [hJ]; show (joinB (L.take k)).length ≤ 6400; omega
      rw [← hJ]
      by_cases h0 : k = 0
      · subst h0
        have hcell0 : w.cell? ⟨b, off, none⟩ = some (.string E) := hcell
        have HN : Hid (J ++ E = mkB (joinB (L.take 1))) := Lib.hid (by
          apply eq_mkB
          rw [cat_list, hJ, hE, join_first (by have := HLn.out; omega)]
          rfl)
        clear hJ hE hms
        go_wp2
        go_round
        case rel => exact ⟨1, by omega, by go_num, by rw [HN.out]⟩
        case measure => simp [intOf]; omega
      · have hk0 : (0 : Int) < k := by omega
        have HN : Hid (J ++ ⟨#[32]⟩ ++ E = mkB (joinB (L.take (k + 1)))) := Lib.hid (by
          apply eq_mkB
          rw [cat_list, cat_list, hJ, hE, join_next (by omega) (by have := HLn.out; omega)]
          rfl)
        have hsz : (J ++ ⟨#[32]⟩).size ≤ 6401 := by rw [ByteArray.size_append]; show J.size + 1 ≤ 6401; omega
        clear hJ hE hms
        go_wp2
        go_round
        case rel => exact ⟨k + 1, by omega, by go_num, by rw [HN.out]⟩
        case measure => simp [intOf]; omega
    · obtain rfl : k = n := by omega
      have HN : Hid (L.take k = L) := Lib.hid (List.take_of_length_le (by have := HLn.out; omega))
      go_wp2
      go_ret
      exact ⟨by rw [HN.out]; rfl, rfl⟩

/-- The text of a sequence where it is valid. -/
def wantB (L : List Str) : Str := if mayB L = true then mkB (joinB L) else ⟨#[]⟩
theorem sjoin_any (L : List Str) (n c : Nat) (A : Option Addr) (w : World) (hl : Sq w A n c L) (hm : mayB L = true) :
    Calls Try.prog 27 #[.slice A n c, .string ⟨#[32]⟩] w fun e w' => e = .returned (.string (mkB (joinB L))) ∧ Below w.heap.size w w' := by
  obtain ⟨h256, h24⟩ := may_parts hm
  have hLn := hl.len
  rcases Nat.eq_zero_or_pos n with rfl | h0
  · have hL : L = [] := List.eq_nil_of_length_eq_zero hLn
    subst hL
    exact (Try.strings_Join_none A c ⟨#[32]⟩ w).mono fun _ _ ⟨he, hw⟩ => ⟨he, by rw [hw]; exact Below.refl _ _⟩
  · obtain ⟨b, off, rfl, hlt, hc⟩ := hl.1.1.2 h0
    subst hLn
    have hms := join_most h24 L.length (Nat.le_refl _)
    rw [List.take_length] at hms
    exact Try.strings_Join b off c L ⟨#[32]⟩ w (fun j x hx => hc j _ (by unfold sv; rw [List.getElem?_map, hx]; rfl)) hlt (by omega) hl.1.2.1 (by
      show (joinB L).length ≤ _
      omega)
theorem wjoin_any (L : List Str) (n c : Nat) (A : Option Addr) (w : World) (hl : Sq w A n c L) :
    Calls Try.prog 14 #[.slice A n c] w fun e w' => e = .returned (.string (wantB L)) ∧ Below w.heap.size w w' := by
  have HV := Lib.hid (wvalid_any L n c A w hl)
  cases hm : mayB L with
  | false =>
    rw [hm] at HV
    have HW : Hid (wantB L = ⟨#[]⟩) := Lib.hid (by unfold wantB; rw [hm]; rfl)
    have hb := Below.refl w.heap.size w
    clear hm hl
    go_enter Try.func14, Try.ntmps14
    go_wp2_with (go_at_call 13; ((with_reducible refine (HV.out).mono ?_); rintro e w1 ⟨rfl, rfl⟩))
    go_ret
    exact ⟨by rw [HW.out]; rfl, hb⟩
  | true =>
    have HJ := Lib.hid (sjoin_any L n c A w hl hm)
    rw [hm] at HV
    have HW : Hid (wantB L = mkB (joinB L)) := Lib.hid (by unfold wantB; rw [hm]; rfl)
    clear hm hl
    go_enter Try.func14, Try.ntmps14
    go_wp2_with (first
      | (go_at_call 13; ((with_reducible refine (HV.out).mono ?_); rintro e w1 ⟨rfl, rfl⟩))
      | (go_at_call 27; ((with_reducible refine (HJ.out).mono ?_); rintro e w2 ⟨rfl, hb2⟩)))
    go_ret
    exact ⟨by rw [HW.out]; rfl, hb2⟩
end Go.Proofs.Ytphehcbjegfifaa
