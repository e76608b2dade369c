/-
  The texts of sequences: the contracts of Text and Join.
-/
import Derived.Test.YtphehcbjegfifaaDoorWrd
import Derived.Test.YtphehcbjegfifaaDoorShelf
namespace Go.Proofs.YtphehcbjegfifaaDoor
open Go.RowKit (wrap32 wrap64 intOf Hid Below)
open Occ

/-- The text of a sequence. -/
def joinB (L : List Str) : List UInt8 := Lib.join (L.map (·.data.toList)) [32]
def mkB (l : List UInt8) : Str := ⟨l.toArray⟩
theorem mkB_list (l : List UInt8) : (mkB l).data.toList = l := rfl
theorem eq_mkB {a : Str} {l : List UInt8} (h : a.data.toList = l) : a = mkB l := by
  subst h
  cases a
  rfl
theorem cat_list (a b : Str) : (a ++ b).data.toList = a.data.toList ++ b.data.toList := by
  rw [ByteArray.data_append, Array.toList_append]
theorem join_first {L : List Str} (h : 0 < L.length) : joinB (L.take 1) = (st L 0).data.toList := by
  cases L with
  | nil => simp at h
  | cons x r =>
    unfold joinB
    show Lib.join [x.data.toList] [32] = _
    rw [Lib.join_one]
    rfl
theorem join_next {L : List Str} {k : Nat} (h0 : 0 < k) (hk : k < L.length) : joinB (L.take (k + 1)) = joinB (L.take k) ++ [32] ++ (st L k).data.toList := by
  cases L with
  | nil => simp at hk
  | cons x r =>
    obtain ⟨j, rfl⟩ : ∃ j, k = j + 1 := ⟨k - 1, by omega⟩
    have hj : j < r.length := by simpa using hk
    unfold joinB
    rw [List.take_succ_cons, List.take_succ_cons, List.map_cons, List.map_cons, Lib.join_cons, Lib.join_cons, List.map_take, List.map_take]
    have hy : (r.map (·.data.toList))[j]? = some (st (x :: r) (j + 1)).data.toList := by
      rw [List.getElem?_map, List.getElem?_eq_getElem hj, st_eq hk]
      rfl
    rw [Lib.joinTail_take_succ _ _ _ _ hy]
    simp
theorem join_most {L : List Str} (h : ∀ j, j < L.length → (st L j).size ≤ 24) : ∀ k, k ≤ L.length → (joinB (L.take k)).length ≤ 25 * k
  | 0, _ => by simp [joinB, Lib.join_nil]
  | 1, hk => by
    rw [join_first (by omega)]
    have := h 0 (by omega)
    simp; omega
  | k + 2, hk => by
    have ih := join_most h (k + 1) (by omega)
    rw [join_next (by omega) (by omega), List.length_append, List.length_append]
    have := h (k + 1) (by omega)
    simp; omega
theorem word_small {s : Str} (h : wordB s = true) : s.size ≤ 24 := by
  unfold wordB at h
  rw [Bool.and_eq_true, decide_eq_true_eq] at h
  exact h.1.2
theorem may_parts {L : List Str} (h : mayB L = true) : L.length ≤ 256 ∧ ∀ j, j < L.length → (st L j).size ≤ 24 := by
  unfold mayB at h
  rw [Bool.and_eq_true, decide_eq_true_eq, List.all_eq_true] at h
  exact ⟨h.1, fun j hj => word_small (h.2 _ (by rw [st_eq hj]; exact List.getElem_mem _))⟩
theorem cat_run (a b : ByteArray) (h : a.size + b.size ≤ 1000000) : Op.stringOp .add a b = pure (.string (a ++ b)) := by
  have hm : IntKind.i64.max = 9223372036854775807 := rfl
  unfold Op.stringOp
  simp only
  rw [if_neg (by rw [hm]; omega)]

/-- The text of a sequence where it is valid. -/
def wantB (L : List Str) : Str := if mayB L = true then mkB (joinB L) else ⟨#[]⟩
theorem sjoin_any (L : List Str) (n c : Nat) (A : Option Addr) (w : World) (hl : Sq w A n c L) (hm : mayB L = true) :
    Calls Tryd.prog 21 #[.slice A n c, .string ⟨#[32]⟩] w fun e w' => e = .returned (.string (mkB (joinB L))) ∧ Below w.heap.size w w' := by
  obtain ⟨h256, h24⟩ := may_parts hm
  have hLn := hl.len
  rcases Nat.eq_zero_or_pos n with rfl | h0
  · have hL : L = [] := List.eq_nil_of_length_eq_zero hLn
    subst hL
    exact (Tryd.strings_Join_none A c ⟨#[32]⟩ w).mono fun _ _ ⟨he, hw⟩ => ⟨he, by rw [hw]; exact Below.refl _ _⟩
  · obtain ⟨b, off, rfl, hlt, hc⟩ := hl.1.1.2 h0
    subst hLn
    have hms := join_most h24 L.length (Nat.le_refl _)
    rw [List.take_length] at hms
    exact Tryd.strings_Join b off c L ⟨#[32]⟩ w (fun j x hx => hc j _ (by unfold sv; rw [List.getElem?_map, hx]; rfl)) hlt (by omega) hl.1.2.1 (by
      show (joinB L).length ≤ _
      omega)
theorem wjoin_any (L : List Str) (n c : Nat) (A : Option Addr) (w : World) (hl : Sq w A n c L) :
    Calls Tryd.prog 9 #[.slice A n c] w fun e w' => e = .returned (.string (wantB L)) ∧ Below w.heap.size w w' := by
  have HV := Lib.hid (wvalid_any L n c A w hl)
  cases hm : mayB L with
  | false =>
    rw [hm] at HV
    have HW : Hid (wantB L = ⟨#[]⟩) := Lib.hid (by unfold wantB; rw [hm]; rfl)
    have hb := Below.refl w.heap.size w
    clear hm hl
    go_enter Tryd.func9, Tryd.ntmps9
    go_wp2_with (go_at_call 10; ((with_reducible refine (HV.out).mono ?_); rintro e w1 ⟨rfl, rfl⟩))
    go_ret
    exact ⟨by rw [HW.out]; rfl, hb⟩
  | true =>
    have HJ := Lib.hid (sjoin_any L n c A w hl hm)
    rw [hm] at HV
    have HW : Hid (wantB L = mkB (joinB L)) := Lib.hid (by unfold wantB; rw [hm]; rfl)
    clear hm hl
    go_enter Tryd.func9, Tryd.ntmps9
    go_wp2_with (first
      | (go_at_call 10; ((with_reducible refine (HV.out).mono ?_); rintro e w1 ⟨rfl, rfl⟩))
      | (go_at_call 21; ((with_reducible refine (HJ.out).mono ?_); rintro e w2 ⟨rfl, hb2⟩)))
    go_ret
    exact ⟨by rw [HW.out]; rfl, hb2⟩
end Go.Proofs.YtphehcbjegfifaaDoor
