/-
  The contracts of the reference's text and Next.
-/
import Derived.Deep.RegionWith
import Derived.Laws.BytesString
import Derived.Test.YtbjdfghakhplnaaDoorWf
namespace Go.Proofs.YtbjdfghakhplnaaDoor
open Go.RowKit (wrap32 wrap64 intOf Hid Below)
open Lab

/-- A text of one byte. -/
def one (x : Int) : ByteArray := ⟨#[UInt8.ofNat x.toNat]⟩
theorem one_list (x : Int) : (one x).data.toList = [UInt8.ofNat x.toNat] := rfl
theorem one_size (x : Int) : (one x).size = 1 := rfl
theorem conv_new (w : World) (x : Int) (t : TypeId) :
    Sem.run Tryd.prog (convert 51 9 (.slice (some ⟨w.heap.size, 0, none⟩) 1 1)) (w.alloc (.cells #[.int .u8 x] t)) = .ok (.string (one x)) (w.alloc (.cells #[.int .u8 x] t)) := by
  have hc : (w.alloc (.cells #[.int .u8 x] t)).cell? ⟨w.heap.size, 0, none⟩ = some (.int .u8 x) := by rw [World.cell?_alloc_at _ _ _ _ rfl]; rfl
  have h := run_bytesToString (P := Tryd.prog) (w.alloc (.cells #[.int .u8 x] t)) ⟨w.heap.size, 0, none⟩ 1 1 [x] (run_loadCells_list _ (P := Tryd.prog) ⟨w.heap.size, 0, none⟩ [.int .u8 x] (fun j v hj => by
    match j, hj with
    | 0, hj => rw [show ((⟨w.heap.size, 0, none⟩ : Addr).add 0) = ⟨w.heap.size, 0, none⟩ from rfl, hc]; exact hj))
  exact (run_convert_bytes_string _ 51 9 5 _ 1 1 Tryd.underlying51 Tryd.underlying5 Tryd.underlying9).trans h
/-- The digits of n ahead of its last ones. -/
def decHi (q : Nat) : Bs := if q < 10 then [] else Lib.decDigits (q / 10)
theorem decHi_all (q : Nat) : decHi q ++ [UInt8.ofNat (48 + q % 10)] = Lib.decDigits q := by
  unfold decHi
  rw [Lib.decDigits.eq_def q]
  split
  · rw [Nat.mod_eq_of_lt (by assumption)]; simp
  · rfl
theorem one_digit (x : Int) (q : Nat) (h : x.toNat = 48 + q % 10) : decHi q ++ (one x).data.toList = Lib.decDigits q := by rw [one_list, h, decHi_all]

set_option maxHeartbeats 1000000 in
set_option maxRecDepth 100000 in
theorem text_any (n : Nat) (S : ByteArray) (w : World) (hn : n ≤ 10000) (hS : S.size ≤ 100) (hn1 : 1 ≤ n) :
    Calls Tryd.prog 36 #[.int .i64 (n : Int), .string S] w fun e w' => e = .returned (.string (mk (txt n S.data.toList))) ∧ Below w.heap.size w w' := by
  go_enter Tryd.func36, Tryd.ntmps36
  go_wp2
  rw [conv_new]
  simp only [Result.andThen]
  rw [Oper.upon_value]
  go_wp2
  go_loopw [0, 5] (fun i v wr => ∃ (q : Nat) (b : ByteArray), q ≤ n ∧ i = .int .i64 q ∧ v = .string b ∧ decHi q ++ b.data.toList = Lib.decDigits n ∧ Below w.heap.size w wr) (fun i _ _ => (intOf i).toNat)
  case atStart => exact ⟨n, _, Nat.le_refl _, rfl, rfl, one_digit _ n (by omega), (Below.refl _ _).alloc (Nat.le_refl _) _⟩
  case round =>
    obtain ⟨q, b, hq, rfl, rfl, he, hb⟩ := hrel
    have hsz : b.size ≤ 5 := by
      have h1 := congrArg List.length he
      rw [List.length_append] at h1
      have h2 : (Lib.decDigits n).length ≤ 5 := by
        by_cases h9 : n ≤ 9999
        · have := dec_len n h9; omega
        · rw [dec_big (by omega), List.length_append]
          have := dec_len (n / 10) (by omega)
          simp; omega
      have h3 : b.data.toList.length = b.size := by simp
      omega
    have hbz := hb.size
    have HE := Lib.hid he
    clear he
    by_cases h9 : q ≤ 9
    · go_wp2
      go_ret
      refine ⟨ret_str (eq_mk ?_), hb⟩
      have h1 := HE.out
      unfold decHi at h1
      rw [if_pos (by omega), List.nil_append] at h1
      rw [cat_list, h1]
      rfl
    · have h1 : (one (48 + (q : Int) / 10 % 10)).size = 1 := rfl
      go_wp2
      rw [conv_new]
      simp only [Result.andThen]
      rw [Oper.upon_value]
      go_wp2
      go_roundw
      case rel => exact ⟨q / 10, _, by omega, by go_num, rfl, by
        rw [← HE.out, cat_list, ← List.append_assoc, one_digit _ (q / 10) (by omega)]
        congr 1
        exact (if_neg (by omega)).symm, hb.alloc hbz _⟩
      case measure => simp [intOf]; omega
end Go.Proofs.YtbjdfghakhplnaaDoor
