/-
  The contracts of the reference's number and Digits.
-/
import Derived.Test.YtplphinaeikpmaaGreatDoorPar
import Derived.Test.YtplphinaeikpmaaGreatDoorMem
namespace Go.Proofs.YtplphinaeikpmaaGreatDoor
open Go.RowKit (wrap32 wrap64 intOf Hid Below)
open Spans

/-- What number answers at an offset behind which the text reads l. -/
def NumRet (l : Bs) (a : Nat) (e : Ending) : Prop := ∃ m, Run l m ∧ e = .returned (if m = 0 then .tuple #[.int .i64 0, .int .i64 (-1)] else .tuple #[.int .i64 (val (l.take m) : Nat), .int .i64 ((a + m : Nat) : Int)])
/-- The bytes of a text behind an offset. -/
def rest (s : ByteArray) (a : Nat) : Bs := s.data.toList.drop a
theorem rest_at (s : ByteArray) (a k : Nat) (ha : a ≤ k) (hk : k < s.size) : (rest s a)[k - a]? = some s[k] := by
  unfold rest
  rw [List.getElem?_drop, show a + (k - a) = k by omega]
  exact List.getElem?_eq_getElem (by simpa using hk)
theorem rest_len (s : ByteArray) (a : Nat) : (rest s a).length = s.size - a := by simp [rest]
theorem rest_step (s : ByteArray) (a k : Nat) (ha : a ≤ k) (hk : k < s.size) : (rest s a).take (k + 1 - a) = (rest s a).take (k - a) ++ [s[k]] := by
  rw [show k + 1 - a = (k - a) + 1 by omega, List.take_add_one, rest_at s a k ha hk]
  rfl
theorem num_ret (s : ByteArray) (a k : Nat) (ha : a ≤ k) (hk : k ≤ s.size) (h8 : k ≤ a + 8) (had : ∀ c ∈ (rest s a).take (k - a), isDig c = true)
    (hx : k = a + 8 ∨ k = s.size ∨ ∃ h : k < s.size, isDig s[k] = false) : NumRet (rest s a) a (.returned (if k = a then .tuple #[.int .i64 0, .int .i64 (-1)] else .tuple #[.int .i64 (val ((rest s a).take (k - a)) : Nat), .int .i64 (k : Int)])) := by
  refine ⟨k - a, ⟨by omega, by rw [rest_len]; omega, had, ?_⟩, ?_⟩
  · rcases hx with h | h | ⟨h, hd⟩
    · exact Or.inl (by omega)
    · exact Or.inr fun c hc => by
        rw [List.getElem?_eq_none (by rw [rest_len]; omega)] at hc
        cases hc
    · exact Or.inr fun c hc => by
        rw [rest_at s a k ha h] at hc
        rw [← Option.some.inj hc]; exact hd
  · by_cases h0 : k = a
    · rw [if_pos h0, if_pos (by omega)]
    · rw [if_neg h0, if_neg (by omega), show a + (k - a) = k by omega]

set_option maxHeartbeats 1000000 in
theorem number_any (s : ByteArray) (a : Nat) (w : World) (hs : s.size ≤ 100000) (ha : a ≤ 100000) (hle : a ≤ s.size) :
    Calls Tryz.prog 23 #[.string s, .int .i64 a] w fun e w' => NumRet (rest s a) a e ∧ w' = w := by
  go_enter Tryz.func23, Tryz.ntmps23
  go_wp2
  go_loop [6, 7] (fun n i => ∃ k : Nat, a ≤ k ∧ k ≤ s.size ∧ k ≤ a + 8 ∧ i = .int .i64 k ∧ n = .int .i64 (val ((rest s a).take (k - a)) : Nat) ∧ ∀ c ∈ (rest s a).take (k - a), isDig c = true) (fun _ i => s.size - (intOf i).toNat)
  case atStart => exact ⟨a, Nat.le_refl _, hle, by omega, rfl, by rw [Nat.sub_self]; rfl, by rw [Nat.sub_self]; intro c hc; cases hc⟩
  case round =>
    obtain ⟨k, hak, hk, h8, rfl, rfl, had⟩ := hrel
    have HD := Lib.hid had
    have hv := val_lt8 _ had (by rw [List.length_take]; omega)
    have HF := Lib.hid (num_ret s a k hak hk h8 had)
    clear had
    by_cases hlt : k < s.size
    · by_cases h88 : k < a + 8
      · by_cases c1 : 48 ≤ (s[k].toNat : Int)
        · by_cases c2 : (s[k].toNat : Int) ≤ 57
          · have HT := Lib.hid (rest_step s a k hak hlt)
            have HV := Lib.hid (val_snoc ((rest s a).take (k - a)) s[k])
            have HG : Hid (isDig s[k] = true) := Lib.hid (by unfold isDig; rw [decide_eq_true_eq]; omega)
            go_wp2
            go_round
            case rel => exact ⟨k + 1, by omega, by omega, by omega, by go_num, by rw [HT.out, HV.out]; congr 1; push_cast; omega, by
              rw [HT.out]
              intro c hc
              rcases List.mem_append.1 hc with h | h
              · exact HD.out c h
              · rw [List.mem_singleton.1 h]; exact HG.out⟩
            case measure => simp [intOf]; omega
          · have HG : Hid (isDig s[k] = false) := Lib.hid (by unfold isDig; rw [decide_eq_false_iff_not]; omega)
            have HE := Lib.hid (HF.out (Or.inr (Or.inr ⟨hlt, HG.out⟩)))
            by_cases h0 : k = a
            · have HEE : Hid (NumRet (rest s a) a (.returned (.tuple #[.int .i64 0, .int .i64 (-1)]))) := Lib.hid (by have := HE.out; rw [if_pos h0] at this; exact this)
              subst h0
              go_wp2
              go_ret2
              exact ⟨HEE.out, rfl⟩
            · have HEE : Hid (NumRet (rest s a) a (.returned (.tuple #[.int .i64 (val ((rest s a).take (k - a)) : Nat), .int .i64 (k : Int)]))) := Lib.hid (by have := HE.out; rw [if_neg h0] at this; exact this)
              have h00 : ((k : Int) == (a : Int)) = false := by rw [beq_eq_false_iff_ne]; omega
              go_wp2
              go_ret2
              exact ⟨HEE.out, rfl⟩
        · have HG : Hid (isDig s[k] = false) := Lib.hid (by unfold isDig; rw [decide_eq_false_iff_not]; omega)
          have HE := Lib.hid (HF.out (Or.inr (Or.inr ⟨hlt, HG.out⟩)))
          by_cases h0 : k = a
          · have HEE : Hid (NumRet (rest s a) a (.returned (.tuple #[.int .i64 0, .int .i64 (-1)]))) := Lib.hid (by have := HE.out; rw [if_pos h0] at this; exact this)
            subst h0
            go_wp2
            go_ret2
            exact ⟨HEE.out, rfl⟩
          · have HEE : Hid (NumRet (rest s a) a (.returned (.tuple #[.int .i64 (val ((rest s a).take (k - a)) : Nat), .int .i64 (k : Int)]))) := Lib.hid (by have := HE.out; rw [if_neg h0] at this; exact this)
            have h00 : ((k : Int) == (a : Int)) = false := by rw [beq_eq_false_iff_ne]; omega
            go_wp2
            go_ret2
            exact ⟨HEE.out, rfl⟩
      · have HE := Lib.hid (HF.out (Or.inl (by omega)))
        have h0 : ¬ k = a := by omega
        have HEE : Hid (NumRet (rest s a) a (.returned (.tuple #[.int .i64 (val ((rest s a).take (k - a)) : Nat), .int .i64 (k : Int)]))) := Lib.hid (by have := HE.out; rw [if_neg h0] at this; exact this)
        have h00 : ((k : Int) == (a : Int)) = false := by rw [beq_eq_false_iff_ne]; omega
        go_wp2
        go_ret2
        exact ⟨HEE.out, rfl⟩
    · have HE := Lib.hid (HF.out (Or.inr (Or.inl (by omega))))
      by_cases h0 : k = a
      · have HEE : Hid (NumRet (rest s a) a (.returned (.tuple #[.int .i64 0, .int .i64 (-1)]))) := Lib.hid (by have := HE.out; rw [if_pos h0] at this; exact this)
        subst h0
        go_wp2
        go_ret2
        exact ⟨HEE.out, rfl⟩
      · have HEE : Hid (NumRet (rest s a) a (.returned (.tuple #[.int .i64 (val ((rest s a).take (k - a)) : Nat), .int .i64 (k : Int)]))) := Lib.hid (by have := HE.out; rw [if_neg h0] at this; exact this)
        have h00 : ((k : Int) == (a : Int)) = false := by rw [beq_eq_false_iff_ne]; omega
        go_wp2
        go_ret2
        exact ⟨HEE.out, rfl⟩
/-- A text of one byte. -/
def one (x : Int) : ByteArray := ⟨#[UInt8.ofNat x.toNat]⟩
theorem one_list (x : Int) : (one x).data.toList = [UInt8.ofNat x.toNat] := rfl
theorem conv_new (w : World) (x : Int) (t : TypeId) :
    Sem.run Tryz.prog (convert 58 9 (.slice (some ⟨w.heap.size, 0, none⟩) 1 1)) (w.alloc (.cells #[.int .u8 x] t)) = .ok (.string (one x)) (w.alloc (.cells #[.int .u8 x] t)) := by
  have hc : (w.alloc (.cells #[.int .u8 x] t)).cell? ⟨w.heap.size, 0, none⟩ = some (.int .u8 x) := by rw [World.cell?_alloc_at _ _ _ _ rfl]; rfl
  have h := run_bytesToString (P := Tryz.prog) (w.alloc (.cells #[.int .u8 x] t)) ⟨w.heap.size, 0, none⟩ 1 1 [x] (run_loadCells_list _ (P := Tryz.prog) ⟨w.heap.size, 0, none⟩ [.int .u8 x] (fun j v hj => by
    match j, hj with
    | 0, hj => rw [show ((⟨w.heap.size, 0, none⟩ : Addr).add 0) = ⟨w.heap.size, 0, none⟩ from rfl, hc]; exact hj))
  exact (run_convert_bytes_string _ 58 9 5 _ 1 1 Tryz.underlying58 Tryz.underlying5 Tryz.underlying9).trans h
theorem rets {a b : ByteArray} (h : a = b) : Ending.returned (.string a) = .returned (.string b) := by rw [h]
/-- The digits of n ahead of its last ones. -/
def decHi (q : Nat) : Bs := if q < 10 then [] else Lib.decDigits (q / 10)
theorem decHi_all (q : Nat) : decHi q ++ [UInt8.ofNat (48 + q % 10)] = Lib.decDigits q := by
  unfold decHi
  rw [Lib.decDigits.eq_def q]
  split
  · rw [Nat.mod_eq_of_lt (by assumption)]; simp
  · rfl
theorem one_digit (x : Int) (q : Nat) (h : x.toNat = 48 + q % 10) : decHi q ++ (one x).data.toList = Lib.decDigits q := by rw [one_list, h, decHi_all]
theorem nd_le : ∀ (k u : Nat), u < 10 ^ (k + 1) → Lib.nDigits u ≤ k + 1
  | 0, u, h => by rw [Lib.nDigits_small (by omega)]; omega
  | k + 1, u, h => by
    by_cases h1 : u < 10
    · rw [Lib.nDigits_small h1]; omega
    · rw [Lib.nDigits_big h1]
      rw [Nat.pow_succ] at h
      have := nd_le k (u / 10) (by omega)
      omega
set_option maxHeartbeats 1000000 in
set_option maxRecDepth 100000 in
theorem digits_any (n : Nat) (w : World) (hn : n ≤ 100000000) :
    Calls Tryz.prog 21 #[.int .i64 n] w fun e w' => e = .returned (.string ⟨(Lib.decDigits n).toArray⟩) ∧ Below w.heap.size w w' := by
  go_enter Tryz.func21, Tryz.ntmps21
  go_wp2
  rw [conv_new]
  simp only [Result.andThen]
  rw [Oper.upon_value]
  go_wp2
  go_loopw [0, 3] (fun i v wr => ∃ (q : Nat) (b : ByteArray), q ≤ n ∧ i = .int .i64 q ∧ v = .string b ∧ decHi q ++ b.data.toList = Lib.decDigits n ∧ Below w.heap.size w wr) (fun i _ _ => (intOf i).toNat)
  case atStart => exact ⟨n, _, Nat.le_refl _, rfl, rfl, one_digit _ n (by omega), (Below.refl _ _).alloc (Nat.le_refl _) _⟩
  case round =>
    obtain ⟨q, b, hq, rfl, rfl, he, hb⟩ := hrel
    have hsz : b.size ≤ 100 := by
      have h1 := congrArg List.length he
      rw [List.length_append, Lib.decDigits_length] at h1
      have h2 := nd_le 8 n (by omega)
      have h3 : b.data.toList.length = b.size := by simp
      omega
    have hbz := hb.size
    have HE := Lib.hid he
    clear he
    by_cases h9 : q ≤ 9
    · go_wp2
      go_ret
      exact ⟨rets (by
        have := HE.out
        unfold decHi at this
        rw [if_pos (by omega), List.nil_append] at this
        rw [← this]), hb⟩
    · have h1 : (one (48 + (q : Int) / 10 % 10)).size = 1 := rfl
      go_wp2
      rw [conv_new]
      simp only [Result.andThen]
      rw [Oper.upon_value]
      go_wp2
      go_roundw
      case rel => exact ⟨q / 10, _, by omega, by go_num, rfl, by
        rw [← HE.out, ByteArray.data_append, Array.toList_append, ← List.append_assoc, one_digit _ (q / 10) (by omega)]
        congr 1
        exact (if_neg (by omega)).symm, hb.alloc hbz _⟩
      case measure => simp [intOf]; omega
end Go.Proofs.YtplphinaeikpmaaGreatDoor
