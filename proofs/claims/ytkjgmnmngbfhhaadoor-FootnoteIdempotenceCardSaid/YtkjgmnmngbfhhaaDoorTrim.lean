/-
  The plain mathematics of cutting the capital letters at the end of a text: what strings.TrimRightFunc leaves, byte by byte.
-/
import Derived.Shelf.GgClosure.StringsTrimFunc
import Derived.Lib.TrimUEq
namespace Go.Proofs.YtkjgmnmngbfhhaaDoor
namespace Lab
open Go.Lib
abbrev Bs := List UInt8
def capR (r : Nat) : Bool := decide (65 ≤ r ∧ r ≤ 90)
def isCap (b : UInt8) : Bool := decide (65 ≤ b.toNat ∧ b.toNat ≤ 90)
set_option maxRecDepth 100000 in
theorem decodeN_high (n b0 b1 b2 b3 : Nat) (h0 : 128 ≤ b0) : capR (decodeN n b0 b1 b2 b3).1 = false := by
 unfold decodeN capR
 repeat' split
 all_goals first | (exfalso; omega) | (rw [decide_eq_false_iff_not]; simp only; omega) | rfl
theorem decodeN_two (n b0 b1 b2 b3 : Nat) : 1 ≤ (decodeN n b0 b1 b2 b3).2 := by
 unfold decodeN
 repeat' split
 all_goals simp
theorem last_high (l : Bs) (hl : l ≠ []) (hb : 128 ≤ (l.getD (l.length - 1) 0).toNat) :
   capR (decodeLastL l).1 = false ∧ 1 ≤ (decodeLastL l).2 ∧ (decodeLastL l).2 ≤ l.length ∧ 128 ≤ (l.getD (l.length - (decodeLastL l).2) 0).toNat := by
 have h0 : 0 < l.length := List.length_pos_iff.2 hl
 have hw := decodeLastL_width l h0
 refine ⟨?_, hw.1, hw.2, ?_⟩
 · unfold decodeLastL
   rw [if_neg hl, if_neg (by omega)]
   simp only
   split
   · rename_i he
     rw [decodeL_N, getD_dropU, Nat.add_zero] at he ⊢
     by_cases h1 : ((l.getD (lastStart l) 0).toNat) < 128
     · rw [decodeN_ascii _ _ _ _ _ h1] at he
       simp only at he
       rw [show lastStart l = l.length - 1 by omega] at h1
       omega
     · exact decodeN_high _ _ _ _ _ (by omega)
   · decide
 · unfold decodeLastL
   rw [if_neg hl, if_neg (by omega)]
   simp only
   split
   · rename_i he
     rw [decodeL_N, getD_dropU, Nat.add_zero] at he ⊢
     by_cases h1 : ((l.getD (lastStart l) 0).toNat) < 128
     · rw [decodeN_ascii _ _ _ _ _ h1] at he
       simp only at he
       rw [show lastStart l = l.length - 1 by omega] at h1
       omega
     · rw [show l.length - (decodeN (l.drop (lastStart l)).length (l.getD (lastStart l) 0).toNat ((l.drop (lastStart l)).getD 1 0).toNat ((l.drop (lastStart l)).getD 2 0).toNat ((l.drop (lastStart l)).getD 3 0).toNat).2 = lastStart l by omega]
       omega
   · exact hb
theorem last_low (l : Bs) (hl : l ≠ []) (hb : (l.getD (l.length - 1) 0).toNat < 128) : decodeLastL l = ((l.getD (l.length - 1) 0).toNat, 1) := by
 unfold decodeLastL
 rw [if_neg hl, if_pos hb]
def Found (l : Bs) (i : Nat) (R : Int) : Prop := ∃ j, j ≤ i ∧ (∀ k, j ≤ k → k < i → isCap (l.getD k 0) = true) ∧
 ((j = 0 ∧ R = -1) ∨ (0 < j ∧ (l.getD (j - 1) 0).toNat < 128 ∧ isCap (l.getD (j - 1) 0) = false ∧ R = ((j - 1 : Nat) : Int)) ∨ (∃ m, m < i ∧ R = (m : Int) ∧ 128 ≤ (l.getD m 0).toNat))
theorem last_found (s : ByteArray) : ∀ (f i : Nat), i ≤ f → i ≤ s.size → Found s.data.toList i (lastIdxFuncFrom capR false s f i)
 | 0, i, hf, _ => ⟨0, Nat.zero_le _, fun k _ h => absurd h (by omega), Or.inl ⟨rfl, rfl⟩⟩
 | f + 1, 0, _, _ => ⟨0, Nat.le_refl _, fun k _ h => absurd h (by omega), Or.inl ⟨rfl, by rw [lastIdxFuncFrom_zero]⟩⟩
 | f + 1, i + 1, hf, hi => by
   have hsz : s.data.toList.length = s.size := by simp
   have hlen : (s.data.toList.take (i + 1)).length = i + 1 := by rw [List.length_take]; omega
   have hne : s.data.toList.take (i + 1) ≠ [] := by
     intro h
     rw [h] at hlen
     simp at hlen
   have hg : ∀ k, k < i + 1 → (s.data.toList.take (i + 1)).getD k 0 = s.data.toList.getD k 0 := fun k hk => getD_takeU _ _ _ hk
   have hlast : (s.data.toList.take (i + 1)).getD ((s.data.toList.take (i + 1)).length - 1) 0 = s.data.toList.getD i 0 := by
     rw [hlen, Nat.add_sub_cancel, hg i (by omega)]
   rw [lastIdxFuncFrom, if_pos (by omega)]
   by_cases hb : (s.data.toList.getD i 0).toNat < 128
   · rw [last_low _ hne (by rw [hlast]; exact hb), hlast]
     have hx : capR ((s.data.toList.getD i 0).toNat, 1).1 = isCap (s.data.toList.getD i 0) := rfl
     by_cases hc : isCap (s.data.toList.getD i 0) = true
     · rw [if_neg (by rw [hx, hc]; simp), Nat.add_sub_cancel]
       obtain ⟨j, hj, hcap, hr⟩ := last_found s f i (by omega) (by omega)
       refine ⟨j, by omega, fun k h1 h2 => ?_, ?_⟩
       · by_cases e : k = i
         · rw [e]; exact hc
         · exact hcap k h1 (by omega)
       · rcases hr with h | h | ⟨m, hm, h⟩
         · exact Or.inl h
         · exact Or.inr (Or.inl h)
         · exact Or.inr (Or.inr ⟨m, by omega, h⟩)
     · have hc : isCap (s.data.toList.getD i 0) = false := by simpa using hc
       rw [if_pos (hx.trans hc)]
       exact ⟨i + 1, Nat.le_refl _, fun k h1 h2 => absurd h2 (by omega), Or.inr (Or.inl ⟨by omega, hb, hc, rfl⟩)⟩
   · obtain ⟨h1, h2, h3, h4⟩ := last_high _ hne (by rw [hlast]; omega)
     rw [if_pos h1]
     rw [hlen] at h3 h4
     rw [hg _ (by omega)] at h4
     exact ⟨i + 1, Nat.le_refl _, fun k h1 h2 => absurd h2 (by omega), Or.inr (Or.inr ⟨_, by omega, rfl, h4⟩)⟩
def CutAt (l : Bs) (e : Nat) : Prop := e ≤ l.length ∧ ((∀ k, e ≤ k → k < l.length → isCap (l.getD k 0) = true) ∧ (0 < e → isCap (l.getD (e - 1) 0) = false) ∨ ∃ m, m < e ∧ 128 ≤ (l.getD m 0).toNat)
theorem trim_cut (s : ByteArray) : ∃ e, trimRightF capR s = s.extract 0 e ∧ CutAt s.data.toList e := by
 have hsz : s.data.toList.length = s.size := by simp
 refine ⟨rightEndF capR s, rfl, ?_⟩
 obtain ⟨j, hj, hcap, hr⟩ := last_found s s.size s.size (Nat.le_refl _) (Nat.le_refl _)
 unfold rightEndF lastIdxFunc
 have hdec : ∀ m, m < s.size → decodeGoB (s.extract m s.size) = decodeN (s.size - m) (s.data.toList.getD m 0).toNat (s.data.toList.getD (m + 1) 0).toNat (s.data.toList.getD (m + 2) 0).toNat (s.data.toList.getD (m + 3) 0).toNat := by
   intro m hm
   have hx : (s.extract m s.size).data.toList = s.data.toList.drop m := by
     rw [extract_data, List.take_of_length_le (by rw [List.length_drop]; omega)]
   have hxs : (s.extract m s.size).size = s.size - m := by rw [size_eq, hx, List.length_drop, hsz]
   unfold decodeGoB
   rw [if_neg (by omega), decode_N, hx, List.length_drop, hsz, getD_dropU, getD_dropU, getD_dropU, getD_dropU]
   simp
 rcases hr with ⟨rfl, hr⟩ | ⟨h0, hb, hc, hr⟩ | ⟨m, hm, hr, hb⟩
 · rw [hr, if_neg (by omega)]
   exact ⟨Nat.zero_le _, Or.inl ⟨fun k h1 h2 => hcap k h1 (by omega), fun h => absurd h (by omega)⟩⟩
 · rw [hr, if_pos (by omega), Int.toNat_natCast, hdec _ (by omega), decodeN_ascii _ _ _ _ _ hb]
   simp only
   rw [show j - 1 + 1 = j by omega]
   exact ⟨by omega, Or.inl ⟨fun k h1 h2 => hcap k h1 (by omega), fun _ => hc⟩⟩
 · have hg := decodeGo_le_size (s.extract m s.size)
   have hxs : (s.extract m s.size).size = s.size - m := by
     rw [size_eq, extract_data, List.length_take, List.length_drop, hsz]; omega
   change (decodeGoB (s.extract m s.size)).2 ≤ _ at hg
   rw [hr, if_pos (by omega), Int.toNat_natCast]
   have h1 : 1 ≤ (decodeGoB (s.extract m s.size)).2 := by rw [hdec m hm]; exact decodeN_two _ _ _ _ _
   exact ⟨by omega, Or.inr ⟨m, by omega, hb⟩⟩
end Lab
end Go.Proofs.YtkjgmnmngbfhhaaDoor
