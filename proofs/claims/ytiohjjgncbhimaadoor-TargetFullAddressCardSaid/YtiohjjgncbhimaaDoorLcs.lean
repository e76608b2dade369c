/-
  The plain mathematics of cutting the capital letters at the end of a text: what strings.TrimRightFunc leaves, byte by byte. The plain mathematics of labels: their text, splitting, order, successors, and what lies between. The contracts of the reference's digits, May and Split. The contracts of the reference's Split, of parseNumber, Split and Valid. The contracts of Split and Valid. The plain mathematics of longest common subsequences: their length, the pairs that are found from the front, and distances. It imports nothing of the program.
-/
import Derived.Shelf.GgClosure.StringsTrimFunc
import Derived.Lib.TrimUEq
import Derived.Lib.ItoaNum
import Derived.Handy
import Derived.WalkMore
import Derived.Lib.Hide
import Derived.WalkLawsBesides
import Derived.WalkSpells
import Derived.Deep.QuietTactic
import Derived.BigQuiet
import Derived.Deep.Draws
import Derived.StillTailTactics
import Derived.Test.YtiohjjgncbhimaaDoorShelf
import Derived.Lib.LaidTab
import Derived.Lib.SmallJoins
namespace Go.Proofs.YtiohjjgncbhimaaDoor
namespace Lab
open Go.Lib
abbrev Bs := List UInt8
def capR (r : Nat) : Bool := decide (65 ≤ r ∧ r ≤ 90)
def isCap (b : UInt8) : Bool := decide (65 ≤ b.toNat ∧ b.toNat ≤ 90)
set_option maxRecDepth 100000 in
theorem decodeN_high (n b0 b1 b2 b3 : Nat) (h0 : 128 ≤ b0) : capR (decodeN n b0 b1 b2 b3).1 = false := by
 unfold decodeN capR
 repeat' split
 all_goals first | (exfalso; omega) | (rw [decide_eq_false_iff_not]; simp only; omega) | rfl
theorem decodeN_two (n b0 b1 b2 b3 : Nat) : 1 ≤ (decodeN n b0 b1 b2 b3).2 := by
 unfold decodeN
 repeat' split
 all_goals simp
theorem last_high (l : Bs) (hl : l ≠ []) (hb : 128 ≤ (l.getD (l.length - 1) 0).toNat) :
   capR (decodeLastL l).1 = false ∧ 1 ≤ (decodeLastL l).2 ∧ (decodeLastL l).2 ≤ l.length ∧ 128 ≤ (l.getD (l.length - (decodeLastL l).2) 0).toNat := by
 have h0 : 0 < l.length := List.length_pos_iff.2 hl
 have hw := decodeLastL_width l h0
 refine ⟨?_, hw.1, hw.2, ?_⟩
 · unfold decodeLastL
   rw [if_neg hl, if_neg (by omega)]
   simp only
   split
   · rename_i he
     rw [decodeL_N, getD_dropU, Nat.add_zero] at he ⊢
     by_cases h1 : ((l.getD (lastStart l) 0).toNat) < 128
     · rw [decodeN_ascii _ _ _ _ _ h1] at he
       simp only at he
       rw [show lastStart l = l.length - 1 by omega] at h1
       omega
     · exact decodeN_high _ _ _ _ _ (by omega)
   · decide
 · unfold decodeLastL
   rw [if_neg hl, if_neg (by omega)]
   simp only
   split
   · rename_i he
     rw [decodeL_N, getD_dropU, Nat.add_zero] at he ⊢
     by_cases h1 : ((l.getD (lastStart l) 0).toNat) < 128
     · rw [decodeN_ascii _ _ _ _ _ h1] at he
       simp only at he
       rw [show lastStart l = l.length - 1 by omega] at h1
       omega
     · rw [show l.length - (decodeN (l.drop (lastStart l)).length (l.getD (lastStart l) 0).toNat ((l.drop (lastStart l)).getD 1 0).toNat ((l.drop (lastStart l)).getD 2 0).toNat ((l.drop (lastStart l)).getD 3 0).toNat).2 = lastStart l by omega]
       omega
   · exact hb
theorem last_low (l : Bs) (hl : l ≠ []) (hb : (l.getD (l.length - 1) 0).toNat < 128) : decodeLastL l = ((l.getD (l.length - 1) 0).toNat, 1) := by
 unfold decodeLastL
 rw [if_neg hl, if_pos hb]
def Found (l : Bs) (i : Nat) (R : Int) : Prop := ∃ j, j ≤ i ∧ (∀ k, j ≤ k → k < i → isCap (l.getD k 0) = true) ∧
 ((j = 0 ∧ R = -1) ∨ (0 < j ∧ (l.getD (j - 1) 0).toNat < 128 ∧ isCap (l.getD (j - 1) 0) = false ∧ R = ((j - 1 : Nat) : Int)) ∨ (∃ m, m < i ∧ R = (m : Int) ∧ 128 ≤ (l.getD m 0).toNat))
theorem last_found (s : ByteArray) : ∀ (f i : Nat), i ≤ f → i ≤ s.size → Found s.data.toList i (lastIdxFuncFrom capR false s f i)
 | 0, i, hf, _ => ⟨0, Nat.zero_le _, fun k _ h => absurd h (by omega), Or.inl ⟨rfl, rfl⟩⟩
 | f + 1, 0, _, _ => ⟨0, Nat.le_refl _, fun k _ h => absurd h (by omega), Or.inl ⟨rfl, by rw [lastIdxFuncFrom_zero]⟩⟩
 | f + 1, i + 1, hf, hi => by
   have hsz : s.data.toList.length = s.size := by simp
   have hlen : (s.data.toList.take (i + 1)).length = i + 1 := by rw [List.length_take]; omega
   have hne : s.data.toList.take (i + 1) ≠ [] := by
     intro h
     rw [h] at hlen
     simp at hlen
   have hg : ∀ k, k < i + 1 → (s.data.toList.take (i + 1)).getD k 0 = s.data.toList.getD k 0 := fun k hk => getD_takeU _ _ _ hk
   have hlast : (s.data.toList.take (i + 1)).getD ((s.data.toList.take (i + 1)).length - 1) 0 = s.data.toList.getD i 0 := by
     rw [hlen, Nat.add_sub_cancel, hg i (by omega)]
   rw [lastIdxFuncFrom, if_pos (by omega)]
   by_cases hb : (s.data.toList.getD i 0).toNat < 128
   · rw [last_low _ hne (by rw [hlast]; exact hb), hlast]
     have hx : capR ((s.data.toList.getD i 0).toNat, 1).1 = isCap (s.data.toList.getD i 0) := rfl
     by_cases hc : isCap (s.data.toList.getD i 0) = true
     · rw [if_neg (by rw [hx, hc]; simp), Nat.add_sub_cancel]
       obtain ⟨j, hj, hcap, hr⟩ := last_found s f i (by omega) (by omega)
       refine ⟨j, by omega, fun k h1 h2 => ?_, ?_⟩
       · by_cases e : k = i
         · rw [e]; exact hc
         · exact hcap k h1 (by omega)
       · rcases hr with h | h | ⟨m, hm, h⟩
         · exact Or.inl h
         · exact Or.inr (Or.inl h)
         · exact Or.inr (Or.inr ⟨m, by omega, h⟩)
     · have hc : isCap (s.data.toList.getD i 0) = false := by simpa using hc
       rw [if_pos (hx.trans hc)]
       exact ⟨i + 1, Nat.le_refl _, fun k h1 h2 => absurd h2 (by omega), Or.inr (Or.inl ⟨by omega, hb, hc, rfl⟩)⟩
   · obtain ⟨h1, h2, h3, h4⟩ := last_high _ hne (by rw [hlast]; omega)
     rw [if_pos h1]
     rw [hlen] at h3 h4
     rw [hg _ (by omega)] at h4
     exact ⟨i + 1, Nat.le_refl _, fun k h1 h2 => absurd h2 (by omega), Or.inr (Or.inr ⟨_, by omega, rfl, h4⟩)⟩
def CutAt (l : Bs) (e : Nat) : Prop := e ≤ l.length ∧ ((∀ k, e ≤ k → k < l.length → isCap (l.getD k 0) = true) ∧ (0 < e → isCap (l.getD (e - 1) 0) = false) ∨ ∃ m, m < e ∧ 128 ≤ (l.getD m 0).toNat)
theorem trim_cut (s : ByteArray) : ∃ e, trimRightF capR s = s.extract 0 e ∧ CutAt s.data.toList e := by
 have hsz : s.data.toList.length = s.size := by simp
 refine ⟨rightEndF capR s, rfl, ?_⟩
 obtain ⟨j, hj, hcap, hr⟩ := last_found s s.size s.size (Nat.le_refl _) (Nat.le_refl _)
 unfold rightEndF lastIdxFunc
 have hdec : ∀ m, m < s.size → decodeGoB (s.extract m s.size) = decodeN (s.size - m) (s.data.toList.getD m 0).toNat (s.data.toList.getD (m + 1) 0).toNat (s.data.toList.getD (m + 2) 0).toNat (s.data.toList.getD (m + 3) 0).toNat := by
   intro m hm
   have hx : (s.extract m s.size).data.toList = s.data.toList.drop m := by
     rw [extract_data, List.take_of_length_le (by rw [List.length_drop]; omega)]
   have hxs : (s.extract m s.size).size = s.size - m := by rw [size_eq, hx, List.length_drop, hsz]
   unfold decodeGoB
   rw [if_neg (by omega), decode_N, hx, List.length_drop, hsz, getD_dropU, getD_dropU, getD_dropU, getD_dropU]
   simp
 rcases hr with ⟨rfl, hr⟩ | ⟨h0, hb, hc, hr⟩ | ⟨m, hm, hr, hb⟩
 · rw [hr, if_neg (by omega)]
   exact ⟨Nat.zero_le _, Or.inl ⟨fun k h1 h2 => hcap k h1 (by omega), fun h => absurd h (by omega)⟩⟩
 · rw [hr, if_pos (by omega), Int.toNat_natCast, hdec _ (by omega), decodeN_ascii _ _ _ _ _ hb]
   simp only
   rw [show j - 1 + 1 = j by omega]
   exact ⟨by omega, Or.inl ⟨fun k h1 h2 => hcap k h1 (by omega), fun _ => hc⟩⟩
 · have hg := decodeGo_le_size (s.extract m s.size)
   have hxs : (s.extract m s.size).size = s.size - m := by
     rw [size_eq, extract_data, List.length_take, List.length_drop, hsz]; omega
   change (decodeGoB (s.extract m s.size)).2 ≤ _ at hg
   rw [hr, if_pos (by omega), Int.toNat_natCast]
   have h1 : 1 ≤ (decodeGoB (s.extract m s.size)).2 := by rw [hdec m hm]; exact decodeN_two _ _ _ _ _
   exact ⟨by omega, Or.inr ⟨m, by omega, hb⟩⟩
end Lab
end Go.Proofs.YtiohjjgncbhimaaDoor
namespace Go.Proofs.YtiohjjgncbhimaaDoor
namespace Lab
def isDig (c : UInt8) : Bool := decide (48 ≤ c.toNat ∧ c.toNat ≤ 57)
def valA (a : Nat) (l : Bs) : Nat := l.foldl (fun n c => n * 10 + (c.toNat - 48)) a
def val (l : Bs) : Nat := valA 0 l
theorem val_snoc (l : Bs) (c : UInt8) : val (l ++ [c]) = val l * 10 + (c.toNat - 48) := by simp [val, valA]
theorem d8_toNat (u : Nat) (h : u < 10) : (UInt8.ofNat (48 + u)).toNat = 48 + u := by
 rw [UInt8.toNat_ofNat']; omega
theorem dec_small {u : Nat} (h : u < 10) : Lib.decDigits u = [UInt8.ofNat (48 + u)] := Lib.decDigits_one h
theorem dec_big {u : Nat} (h : ¬ u < 10) : Lib.decDigits u = Lib.decDigits (u / 10) ++ [UInt8.ofNat (48 + u % 10)] := by rw [Lib.decDigits, dif_neg h]
theorem dec_ind {P : Nat → Prop} (h0 : ∀ u, u < 10 → P u) (h1 : ∀ u, ¬ u < 10 → P (u / 10) → P u) : ∀ u, P u := by
 intro u
 induction u using Nat.strongRecOn with
 | _ u ih =>
   by_cases h : u < 10
   · exact h0 u h
   · exact h1 u h (ih (u / 10) (by omega))
theorem dec_dig (u : Nat) : ∀ c ∈ Lib.decDigits u, isDig c = true := by
 refine dec_ind (P := fun u => ∀ c ∈ Lib.decDigits u, isDig c = true) (fun u h c hc => ?_) (fun u h ih c hc => ?_) u
 · rw [dec_small h] at hc
   have : c = UInt8.ofNat (48 + u) := by simpa using hc
   rw [this]
   unfold isDig
   rw [d8_toNat u h, decide_eq_true_eq]; omega
 · rw [dec_big h] at hc
   rcases List.mem_append.1 hc with hc | hc
   · exact ih c hc
   · have : c = UInt8.ofNat (48 + u % 10) := by simpa using hc
     rw [this]
     unfold isDig
     rw [d8_toNat _ (by omega), decide_eq_true_eq]; omega
theorem dec_ne (u : Nat) : Lib.decDigits u ≠ [] := by
 by_cases h : u < 10
 · rw [dec_small h]; simp
 · rw [dec_big h]; simp
theorem dec_head (u : Nat) (hu : 1 ≤ u) : (Lib.decDigits u).head? ≠ some 48 := by
 refine dec_ind (P := fun u => 1 ≤ u → (Lib.decDigits u).head? ≠ some 48) (fun u h hu => ?_) (fun u h ih hu => ?_) u hu
 · rw [dec_small h]
   intro he
   have h1 : UInt8.ofNat (48 + u) = 48 := by simpa using he
   have h2 := congrArg UInt8.toNat h1
   rw [d8_toNat u h] at h2
   have h3 : (48 : UInt8).toNat = 48 := rfl
   omega
 · rw [dec_big h]
   intro he
   apply ih (by omega)
   cases hd : Lib.decDigits (u / 10) with
   | nil => exact absurd hd (dec_ne _)
   | cons x r =>
     rw [hd] at he
     simpa using he
theorem dec_len (u : Nat) (h : u ≤ 9999) : (Lib.decDigits u).length ≤ 4 := by
 by_cases h1 : u < 10
 · rw [dec_small h1]; simp
 · rw [dec_big h1, List.length_append]
   by_cases h2 : u / 10 < 10
   · rw [dec_small h2]; simp
   · rw [dec_big h2, List.length_append]
     by_cases h3 : u / 10 / 10 < 10
     · rw [dec_small h3]; simp
     · rw [dec_big h3, List.length_append, dec_small (by omega)]; simp
theorem valA_lt : ∀ (l : Bs), (∀ c ∈ l, isDig c = true) → ∀ a : Nat, valA a l < (a + 1) * 10 ^ l.length
 | [], _, a => by simp [valA]
 | c :: r, h, a => by
   have hc := h c (by simp)
   unfold isDig at hc
   rw [decide_eq_true_eq] at hc
   have ih := valA_lt r (fun x hx => h x (by simp [hx])) (a * 10 + (c.toNat - 48))
   have e : valA a (c :: r) = valA (a * 10 + (c.toNat - 48)) r := rfl
   rw [e, List.length_cons, Nat.pow_succ, Nat.mul_comm (10 ^ r.length) 10, ← Nat.mul_assoc]
   exact Nat.lt_of_lt_of_le ih (Nat.mul_le_mul_right _ (by omega))
theorem val_lt4 (l : Bs) (h : ∀ c ∈ l, isDig c = true) (hl : l.length ≤ 4) : val l < 10000 := by
 have h1 := valA_lt l h 0
 have h2 : 10 ^ l.length ≤ 10 ^ 4 := Nat.pow_le_pow_right (by omega) hl
 unfold val
 omega
theorem valA_ge : ∀ (l : Bs) (a : Nat), a ≤ valA a l
 | [], a => Nat.le_refl _
 | c :: r, a => by
   have := valA_ge r (a * 10 + (c.toNat - 48))
   have e : valA a (c :: r) = valA (a * 10 + (c.toNat - 48)) r := rfl
   omega
theorem val_pos (l : Bs) (h : ∀ c ∈ l, isDig c = true) (hne : l ≠ []) (h0 : l.head? ≠ some 48) : 1 ≤ val l := by
 cases l with
 | nil => exact absurd rfl hne
 | cons c r =>
   have hc := h c (by simp)
   unfold isDig at hc
   rw [decide_eq_true_eq] at hc
   have hc48 : c.toNat ≠ 48 := by
     intro he
     apply h0
     have : c = 48 := UInt8.toNat_inj.1 he
     simp [this]
   have := valA_ge r (0 * 10 + (c.toNat - 48))
   have e : val (c :: r) = valA (0 * 10 + (c.toNat - 48)) r := rfl
   omega
theorem dec_of : ∀ (k : Nat) (l : Bs), l.length = k → (∀ c ∈ l, isDig c = true) → l ≠ [] → l.head? ≠ some 48 → Lib.decDigits (val l) = l
 | 0, l, hk, _, hne, _ => absurd (List.eq_nil_of_length_eq_zero hk) hne
 | k + 1, l, hk, h, hne, h0 => by
   rcases List.eq_nil_or_concat l with rfl | ⟨r, c, rfl⟩
   · exact absurd rfl hne
   · rw [List.concat_eq_append] at *
     have hc := h c (by simp)
     unfold isDig at hc
     rw [decide_eq_true_eq] at hc
     have ec : UInt8.ofNat (48 + (c.toNat - 48)) = c := by
       rw [show 48 + (c.toNat - 48) = c.toNat by omega]; simp
     rw [val_snoc]
     by_cases hr : r = []
     · subst hr
       rw [show val [] * 10 + (c.toNat - 48) = c.toNat - 48 by simp [val, valA], dec_small (by omega), ec]
       rfl
     · have hd : ∀ x ∈ r, isDig x = true := fun x hx => h x (by simp [hx])
       have hh : r.head? ≠ some 48 := by
         cases r with
         | nil => exact absurd rfl hr
         | cons y r => simpa using h0
       have hv := val_pos r hd hr hh
       rw [dec_big (by omega), show (val r * 10 + (c.toNat - 48)) / 10 = val r by omega, show (val r * 10 + (c.toNat - 48)) % 10 = c.toNat - 48 by omega, ec, dec_of k r (by simpa using hk) hd hr hh]
def Ok (n : Nat) (c : Bs) : Prop := 1 ≤ n ∧ n ≤ 9999 ∧ c.length ≤ 3 ∧ ∀ b ∈ c, isCap b = true
def txt (n : Nat) (c : Bs) : Bs := Lib.decDigits n ++ c
def mayL (l : Bs) : Bool := decide (1 ≤ (l.takeWhile isDig).length ∧ (l.takeWhile isDig).length ≤ 4 ∧ l.head? ≠ some 48 ∧ (l.dropWhile isDig).length ≤ 3 ∧ ∀ b ∈ l.dropWhile isDig, isCap b = true)
def splitL (l : Bs) : Nat × Bs := if mayL l then (val (l.takeWhile isDig), l.dropWhile isDig) else (0, [])
theorem cap_nodig {b : UInt8} (h : isCap b = true) : isDig b = false := by
 unfold isCap at h
 unfold isDig
 rw [decide_eq_true_eq] at h
 rw [decide_eq_false_iff_not]; omega
theorem take_dig : ∀ (d c : Bs), (∀ b ∈ d, isDig b = true) → (∀ b ∈ c, isCap b = true) → (d ++ c).takeWhile isDig = d ∧ (d ++ c).dropWhile isDig = c
 | [], [], _, _ => ⟨rfl, rfl⟩
 | [], b :: c, _, h => by
   have hb := cap_nodig (h b (by simp))
   simp [hb]
 | x :: d, c, hd, hc => by
   have hx := hd x (by simp)
   obtain ⟨h1, h2⟩ := take_dig d c (fun b hb => hd b (by simp [hb])) hc
   constructor
   · rw [List.cons_append, List.takeWhile_cons, hx, if_pos rfl, h1]
   · rw [List.cons_append, List.dropWhile_cons, hx, if_pos rfl, h2]
theorem head_app {d c : Bs} (hd : d ≠ []) : (d ++ c).head? = d.head? := by
 cases d with
 | nil => exact absurd rfl hd
 | cons x d => rfl
theorem take_all_dig (l : Bs) : ∀ b ∈ l.takeWhile isDig, isDig b = true := by
 induction l with
 | nil => simp
 | cons x l ih =>
   intro b hb
   rw [List.takeWhile_cons] at hb
   split at hb
   · rcases List.mem_cons.1 hb with rfl | hb
     · assumption
     · exact ih b hb
   · cases hb
theorem may_ok {l : Bs} (h : mayL l = true) : Ok (splitL l).1 (splitL l).2 ∧ l = txt (splitL l).1 (splitL l).2 := by
 have h' := h
 unfold mayL at h
 rw [decide_eq_true_eq] at h
 obtain ⟨h1, h2, h3, h4, h5⟩ := h
 have e : l = l.takeWhile isDig ++ l.dropWhile isDig := List.takeWhile_append_dropWhile.symm
 have hne : l.takeWhile isDig ≠ [] := List.length_pos_iff.1 h1
 have hh : (l.takeWhile isDig).head? ≠ some 48 := by
   rw [e, head_app hne] at h3
   exact h3
 unfold splitL
 rw [if_pos h']
 have hv := dec_of _ _ rfl (take_all_dig l) hne hh
 refine ⟨⟨val_pos _ (take_all_dig l) hne hh, by have := val_lt4 _ (take_all_dig l) h2; omega, h4, h5⟩, ?_⟩
 unfold txt
 rw [hv]
 exact e
theorem split_no {l : Bs} (h : mayL l = false) : splitL l = (0, []) := by unfold splitL; rw [h]; rfl
theorem split_zero (l : Bs) : (splitL l).1 = 0 ↔ mayL l = false := by
 constructor
 · intro h
   cases hm : mayL l with
   | false => rfl
   | true =>
     have := (may_ok hm).1.1
     omega
 · intro h
   rw [split_no h]
theorem may_bytes {l : Bs} (h : mayL l = true) : ∀ b ∈ l, isDig b = true ∨ isCap b = true := by
 obtain ⟨⟨_, _, _, h4⟩, e⟩ := may_ok h
 intro b hb
 rw [e] at hb
 rcases List.mem_append.1 hb with hb | hb
 · exact Or.inl (dec_dig _ b hb)
 · exact Or.inr (h4 b hb)
def parseP (d : Bs) : Bool := decide (d ≠ [] ∧ d.length ≤ 4 ∧ d.head? ≠ some 48 ∧ ∀ b ∈ d, isDig b = true)
theorem getD_mem {l : Bs} {k : Nat} (hk : k < l.length) : l.getD k 0 ∈ l := by
 rw [List.getD, List.getElem?_eq_getElem hk]
 exact List.getElem_mem hk
theorem split_yes {l : Bs} {e : Nat} (hc : CutAt l e) (hp : parseP (l.take e) = true) (h3 : l.length - e ≤ 3) : splitL l = (val (l.take e), l.drop e) := by
 unfold parseP at hp
 rw [decide_eq_true_eq] at hp
 obtain ⟨p1, p2, p3, p4⟩ := hp
 obtain ⟨he, hc⟩ := hc
 have hcaps : ∀ b ∈ l.drop e, isCap b = true := by
   rcases hc with ⟨hc, _⟩ | ⟨m, hm, hb⟩
   · intro b hb
     obtain ⟨i, hi, rfl⟩ := List.getElem_of_mem hb
     rw [List.length_drop] at hi
     have := hc (e + i) (by omega) (by omega)
     rw [List.getD, List.getElem?_eq_getElem (by omega)] at this
     rw [List.getElem_drop]
     exact this
   · have hmem : l.getD m 0 ∈ l.take e := by
       have := getD_mem (l := l.take e) (k := m) (by rw [List.length_take]; omega)
       rwa [show (l.take e).getD m 0 = l.getD m 0 by simp [List.getD, hm]] at this
     have := p4 _ hmem
     unfold isDig at this
     rw [decide_eq_true_eq] at this
     omega
 obtain ⟨e1, e2⟩ := take_dig (l.take e) (l.drop e) p4 hcaps
 rw [List.take_append_drop] at e1 e2
 have hm : mayL l = true := by
   unfold mayL
   rw [decide_eq_true_eq, e1, e2, List.length_drop]
   refine ⟨List.length_pos_iff.2 p1, p2, ?_, h3, hcaps⟩
   rw [← head_app (c := l.drop e) p1, List.take_append_drop] at p3
   exact p3
 unfold splitL
 rw [if_pos hm, e1, e2]
theorem split_cut {l : Bs} {e : Nat} (hc : CutAt l e) (h : parseP (l.take e) = false ∨ 3 < l.length - e) : splitL l = (0, []) := by
 cases hm : mayL l with
 | false => exact split_no hm
 | true =>
   exfalso
   obtain ⟨⟨h1, h2, h3, h4⟩, el⟩ := may_ok hm
   obtain ⟨n, hn⟩ : ∃ n, n = (splitL l).1 := ⟨_, rfl⟩
   obtain ⟨c, hcc⟩ : ∃ c, c = (splitL l).2 := ⟨_, rfl⟩
   rw [← hn, ← hcc] at el
   rw [← hn] at h1 h2
   rw [← hcc] at h3 h4
   obtain ⟨he, hc⟩ := hc
   have hll : l.length = (Lib.decDigits n).length + c.length := by rw [el]; unfold txt; rw [List.length_append]
   have hlow : ∀ k, k < (Lib.decDigits n).length → isDig (l.getD k 0) = true := by
     intro k hk
     rw [el]
     unfold txt
     rw [List.getD, List.getElem?_append_left hk, List.getElem?_eq_getElem hk]
     exact dec_dig n _ (List.getElem_mem hk)
   have hhigh : ∀ k, (Lib.decDigits n).length ≤ k → k < l.length → isCap (l.getD k 0) = true := by
     intro k hk hk2
     have hk3 : k - (Lib.decDigits n).length < c.length := by omega
     rw [el]
     unfold txt
     rw [List.getD, List.getElem?_append_right hk, List.getElem?_eq_getElem hk3]
     exact h4 _ (List.getElem_mem hk3)
   have hee : e = (Lib.decDigits n).length := by
     rcases hc with ⟨ha, hb⟩ | ⟨m, hm', hb⟩
     · rcases Nat.lt_trichotomy e (Lib.decDigits n).length with hh | hh | hh
       · have x1 := ha e (Nat.le_refl _) (by omega)
         have x2 := hlow e hh
         rw [cap_nodig x1] at x2
         cases x2
       · exact hh
       · have x1 := hb (by omega)
         have x2 := hhigh (e - 1) (by omega) (by omega)
         rw [x1] at x2
         cases x2
     · have x := may_bytes hm _ (getD_mem (k := m) (by omega))
       unfold isDig isCap at x
       rw [decide_eq_true_eq, decide_eq_true_eq] at x
       omega
   have htake : l.take e = Lib.decDigits n := by rw [hee, el]; unfold txt; rw [List.take_left]
   rcases h with h | h
   · rw [htake] at h
     have hp : parseP (Lib.decDigits n) = true := by
       unfold parseP
       rw [decide_eq_true_eq]
       exact ⟨dec_ne n, dec_len n h2, dec_head n h1, dec_dig n⟩
     rw [hp] at h
     cases h
   · omega
end Lab
end Go.Proofs.YtiohjjgncbhimaaDoor
namespace Go.Proofs.YtiohjjgncbhimaaDoor
open Go.RowKit (wrap32 wrap64 intOf Hid Below)
open Lab
theorem ret_bool {a b : Bool} (h : a = b) : Ending.returned (.bool a) = .returned (.bool b) := by rw [h]
theorem ret_int {k : IntKind} {a b : Int} (h : a = b) : Ending.returned (.int k a) = .returned (.int k b) := by rw [h]
def mk (l : Bs) : ByteArray := ⟨l.toArray⟩
theorem eq_mk {a : ByteArray} {l : Bs} (h : a.data.toList = l) : a = mk l := by
 subst h
 cases a
 rfl
theorem size_list (a : ByteArray) : a.data.toList.length = a.size := by simp
theorem below_drawn {B : Nat} {a w : World} (h : Below B a w) (n : Nat) : Below B a (w.drewN n) := ⟨h.os, h.tape, h.output, h.size, h.block⟩
theorem take_snoc (s : ByteArray) (k : Nat) (h : k < s.size) : s.data.toList.take (k + 1) = s.data.toList.take k ++ [s[k]] := by
 rw [List.take_succ_eq_append_getElem (by simpa using h)]; rfl
theorem getD_at (s : ByteArray) (k : Nat) (h : k < s.size) : s.data.toList.getD k 0 = s[k] := by
 rw [List.getD, List.getElem?_eq_getElem (by simpa using h)]; rfl
theorem tw_len : ∀ (l : Bs) (k : Nat), k ≤ l.length → (∀ c ∈ l.take k, isDig c = true) → (k = l.length ∨ isDig (l.getD k 0) = false) → (l.takeWhile isDig).length = k
 | [], k, hk, _, _ => by simp at hk; simp [hk]
 | x :: l, 0, _, _, hx => by
   have : isDig x = false := by
     rcases hx with hx | hx
     · simp at hx
     · simpa using hx
   rw [List.takeWhile_cons, this]; rfl
 | x :: l, k + 1, hk, hd, hx => by
   have h1 := hd x (by simp)
   rw [List.takeWhile_cons, h1, if_pos rfl, List.length_cons, tw_len l k (by simpa using hk) (fun c hc => hd c (by simp [hc])) (by
     rcases hx with hx | hx
     · left; simpa using hx
     · right; simpa using hx)]
theorem dw_drop : ∀ (l : Bs), l.dropWhile isDig = l.drop (l.takeWhile isDig).length
 | [] => rfl
 | x :: l => by
   rw [List.dropWhile_cons, List.takeWhile_cons]
   split
   · rw [List.length_cons, List.drop_succ_cons, dw_drop l]
   · rfl
theorem tw_le (l : Bs) : (l.takeWhile isDig).length ≤ l.length := by
 have h := congrArg List.length (List.takeWhile_append_dropWhile (p := isDig) (l := l))
 rw [List.length_append] at h
 omega
set_option maxHeartbeats 1000000 in
theorem digits_any (s : ByteArray) (w : World) (hs : s.size ≤ 1000000) :
   Calls Tryd.prog 69 #[.string s] w fun e w' => e = .returned (.int .i64 ((s.data.toList.takeWhile isDig).length : Nat)) ∧ w = w' := by
 go_enter Tryd.func69, Tryd.ntmps69
 go_wp2
 go_loop [3] (fun i => ∃ k : Nat, k ≤ s.size ∧ i = .int .i64 k ∧ ∀ c ∈ s.data.toList.take k, isDig c = true) (fun i => s.size - (intOf i).toNat)
 case atStart => exact ⟨0, Nat.zero_le _, rfl, by intro c hc; simp at hc⟩
 case round =>
   obtain ⟨k, hk, rfl, had⟩ := hrel
   have HD := Lib.hid had
   clear had
   have fin : (k = s.size ∨ isDig (s.data.toList.getD k 0) = false) → (k : Int) = (((s.data.toList.takeWhile isDig).length : Nat) : Int) := fun h => by
     rw [tw_len s.data.toList k (by rw [size_list]; exact hk) HD.out (by rw [size_list]; exact h)]
   have HF := Lib.hid fin
   clear fin
   by_cases hlt : k < s.size
   · have HG := Lib.hid (getD_at s k hlt)
     by_cases c1 : 48 ≤ (s[k].toNat : Int)
     · by_cases c2 : (s[k].toNat : Int) ≤ 57
       · have HT := Lib.hid (take_snoc s k hlt)
         have HGG : Hid (isDig s[k] = true) := Lib.hid (by unfold isDig; rw [decide_eq_true_eq]; omega)
         go_wp2
         go_round
         case rel => exact ⟨k + 1, by omega, by go_num, by
           rw [HT.out]
           intro c hc
           rcases List.mem_append.1 hc with h | h
           · exact HD.out c h
           · rw [List.mem_singleton.1 h]; exact HGG.out⟩
         case measure => simp [intOf]; omega
       · have HE := Lib.hid (HF.out (Or.inr (by rw [HG.out]; unfold isDig; rw [decide_eq_false_iff_not]; omega)))
         go_wp2
         go_ret
         exact ⟨ret_int HE.out, rfl⟩
     · have HE := Lib.hid (HF.out (Or.inr (by rw [HG.out]; unfold isDig; rw [decide_eq_false_iff_not]; omega)))
       go_wp2
       go_ret
       exact ⟨ret_int HE.out, rfl⟩
   · have HE := Lib.hid (HF.out (Or.inl (by omega)))
     go_wp2
     go_ret
     exact ⟨ret_int HE.out, rfl⟩
theorem may_not {l : Bs} {n : Nat} (hn : n = (l.takeWhile isDig).length) (h : n < 1 ∨ 4 < n ∨ l.head? = some 48 ∨ 3 < l.length - n ∨ ∃ k, n ≤ k ∧ k < l.length ∧ isCap (l.getD k 0) = false) : mayL l = false := by
 subst hn
 unfold mayL
 rw [decide_eq_false_iff_not]
 rintro ⟨h1, h2, h3, h4, h5⟩
 rw [dw_drop, List.length_drop] at h4
 rcases h with h | h | h | h | ⟨k, hk1, hk2, h⟩
 · omega
 · omega
 · exact h3 h
 · omega
 · have hm : l.getD k 0 ∈ l.dropWhile isDig := by
     rw [dw_drop, List.getD, List.getElem?_eq_getElem hk2]
     show l[k] ∈ _
     have e : l[k] = (l.drop (l.takeWhile isDig).length)[k - (l.takeWhile isDig).length]'(by rw [List.length_drop]; omega) := by
       rw [List.getElem_drop]
       congr 1
       omega
     rw [e]
     exact List.getElem_mem _
   rw [h5 _ hm] at h
   cases h
theorem may_yes {l : Bs} {n : Nat} (hn : n = (l.takeWhile isDig).length) (h1 : 1 ≤ n) (h2 : n ≤ 4) (h3 : l.head? ≠ some 48) (h4 : l.length - n ≤ 3) (h5 : ∀ k, n ≤ k → k < l.length → isCap (l.getD k 0) = true) : mayL l = true := by
 subst hn
 unfold mayL
 rw [decide_eq_true_eq, dw_drop, List.length_drop]
 refine ⟨h1, h2, h3, h4, fun b hb => ?_⟩
 obtain ⟨i, hi, rfl⟩ := List.getElem_of_mem hb
 rw [List.length_drop] at hi
 have := h5 ((l.takeWhile isDig).length + i) (by omega) (by omega)
 rw [List.getD, List.getElem?_eq_getElem (by omega)] at this
 rw [List.getElem_drop]
 exact this
theorem head_at (s : ByteArray) (h : 0 < s.size) : s.data.toList.head? = some s[0] := by
 have h1 : 0 < s.data.toList.length := by rw [size_list]; exact h
 rw [List.head?_eq_getElem?, List.getElem?_eq_getElem h1]
 rfl
set_option maxHeartbeats 2000000 in
theorem may_any (s : ByteArray) (w : World) (hs : s.size ≤ 1000000) :
   Calls Tryd.prog 55 #[.string s] w fun e w' => e = .returned (.bool (mayL s.data.toList)) ∧ w = w' := by
 have HDg := Lib.hid (digits_any s w hs)
 obtain ⟨n, hn⟩ : ∃ n, n = (s.data.toList.takeWhile isDig).length := ⟨_, rfl⟩
 have hle : n ≤ s.size := by rw [hn, ← size_list]; exact tw_le _
 have HN := Lib.hid (fun h => may_not hn h)
 have HY := Lib.hid (fun h1 h2 h3 h4 h5 => may_yes hn h1 h2 h3 h4 h5)
 rw [← hn] at HDg
 clear hn
 have HSz := Lib.hid (size_list s)
 by_cases c1 : n < 1
 · have HM := Lib.hid (HN.out (Or.inl c1))
   go_enter Tryd.func55, Tryd.ntmps55
   go_wp2_with (go_at_call 69; ((with_reducible refine (HDg.out).mono ?_); rintro e w' ⟨rfl, rfl⟩))
   go_ret
   exact ⟨ret_bool HM.out.symm, rfl⟩
 · by_cases c2 : 4 < n
   · have HM := Lib.hid (HN.out (Or.inr (Or.inl c2)))
     go_enter Tryd.func55, Tryd.ntmps55
     go_wp2_with (go_at_call 69; ((with_reducible refine (HDg.out).mono ?_); rintro e w' ⟨rfl, rfl⟩))
     go_ret
     exact ⟨ret_bool HM.out.symm, rfl⟩
   · have h0 : 0 < s.size := by omega
     have HH := Lib.hid (head_at s h0)
     by_cases c3 : s[0] = 48
     · have HM := Lib.hid (HN.out (Or.inr (Or.inr (Or.inl (by rw [HH.out, c3])))))
       have e3 : ((s[0].toNat : Int) == 48) = true := by rw [c3]; decide
       clear c3
       go_enter Tryd.func55, Tryd.ntmps55
       go_wp2_with (go_at_call 69; ((with_reducible refine (HDg.out).mono ?_); rintro e w' ⟨rfl, rfl⟩))
       go_ret
       exact ⟨ret_bool HM.out.symm, rfl⟩
     · have e3 : ((s[0].toNat : Int) == 48) = false := by
         rw [beq_eq_false_iff_ne]
         intro hh
         apply c3
         apply UInt8.toNat_inj.1
         have : (48 : UInt8).toNat = 48 := rfl
         omega
       have H3 : Hid (s.data.toList.head? ≠ some 48) := Lib.hid (by rw [HH.out]; intro hh; exact c3 (Option.some.inj hh))
       clear c3
       by_cases c4 : 3 < s.size - n
       · have HM := Lib.hid (HN.out (Or.inr (Or.inr (Or.inr (Or.inl (by rw [HSz.out]; exact c4))))))
         go_enter Tryd.func55, Tryd.ntmps55
         go_wp2_with (go_at_call 69; ((with_reducible refine (HDg.out).mono ?_); rintro e w' ⟨rfl, rfl⟩))
         go_ret
         exact ⟨ret_bool HM.out.symm, rfl⟩
       · go_enter Tryd.func55, Tryd.ntmps55
         go_wp2_with (go_at_call 69; ((with_reducible refine (HDg.out).mono ?_); rintro e w' ⟨rfl, rfl⟩))
         go_loop [4] (fun i => ∃ k : Nat, n ≤ k ∧ k ≤ s.size ∧ i = .int .i64 k ∧ ∀ j, n ≤ j → j < k → isCap (s.data.toList.getD j 0) = true) (fun i => s.size - (intOf i).toNat)
         case atStart => exact ⟨n, Nat.le_refl _, hle, rfl, fun j h1 h2 => absurd h1 (by omega)⟩
         case round =>
           obtain ⟨k, hk1, hk2, rfl, hcap⟩ := hrel
           have HC := Lib.hid hcap
           clear hcap
           by_cases hlt : k < s.size
           · have HG := Lib.hid (getD_at s k hlt)
             by_cases x1 : (s[k].toNat : Int) < 65
             · have HM := Lib.hid (HN.out (Or.inr (Or.inr (Or.inr (Or.inr ⟨k, hk1, by rw [HSz.out]; exact hlt, by rw [HG.out]; unfold isCap; rw [decide_eq_false_iff_not]; omega⟩)))))
               go_wp2
               go_ret
               exact ⟨ret_bool HM.out.symm, rfl⟩
             · by_cases x2 : 90 < (s[k].toNat : Int)
               · have HM := Lib.hid (HN.out (Or.inr (Or.inr (Or.inr (Or.inr ⟨k, hk1, by rw [HSz.out]; exact hlt, by rw [HG.out]; unfold isCap; rw [decide_eq_false_iff_not]; omega⟩)))))
                 go_wp2
                 go_ret
                 exact ⟨ret_bool HM.out.symm, rfl⟩
               · have HGG : Hid (isCap s[k] = true) := Lib.hid (by unfold isCap; rw [decide_eq_true_eq]; omega)
                 go_wp2
                 go_round
                 case rel => exact ⟨k + 1, by omega, by omega, by go_num, fun j h1 h2 => by
                   by_cases e : j = k
                   · rw [e, HG.out]; exact HGG.out
                   · exact HC.out j h1 (by omega)⟩
                 case measure => simp [intOf]; omega
           · have HM := Lib.hid (HY.out (by omega) (by omega) H3.out (by rw [HSz.out]; omega) (fun j h1 h2 => HC.out j h1 (by have := HSz.out; omega)))
             go_wp2
             go_ret
             exact ⟨ret_bool HM.out.symm, rfl⟩
end Go.Proofs.YtiohjjgncbhimaaDoor
namespace Go.Proofs.YtiohjjgncbhimaaDoor
open Go.RowKit (wrap32 wrap64 intOf Hid Below)
open Lab
theorem ext_drop (s : ByteArray) (k : Nat) : (s.extract k s.size).data.toList = s.data.toList.drop k := by
 rw [Lib.extract_data, List.take_of_length_le (by rw [List.length_drop, size_list]; omega)]
theorem ext_take (s : ByteArray) (k : Nat) : (s.extract 0 k).data.toList = s.data.toList.take k := by
 rw [Lib.extract_data]; simp
def spV (l : Bs) : Value := .tuple #[.int .i64 ((splitL l).1 : Nat), .string (mk (splitL l).2)]
def pnV (l : Bs) : Value := if parseP l then .tuple #[.int .i64 (val l : Nat), .bool true] else .tuple #[.int .i64 0, .bool false]
theorem pn_no {l : Bs} (h : l = [] ∨ 4 < l.length ∨ l.head? = some 48 ∨ ∃ k, k < l.length ∧ isDig (l.getD k 0) = false) : pnV l = .tuple #[.int .i64 0, .bool false] := by
 have hp : parseP l = false := by
   unfold parseP
   rw [decide_eq_false_iff_not]
   rintro ⟨h1, h2, h3, h4⟩
   rcases h with h | h | h | ⟨k, hk, h⟩
   · exact h1 h
   · omega
   · exact h3 h
   · rw [h4 _ (getD_mem hk)] at h; cases h
 unfold pnV
 rw [hp]; rfl
set_option maxHeartbeats 2000000 in
theorem parse_any (s : ByteArray) (w : World) (hs : s.size ≤ 1000000) :
   Calls Tryd.prog 80 #[.string s] w fun e w' => e = .returned (pnV s.data.toList) ∧ w = w' := by
 have HSz := Lib.hid (size_list s)
 have HNo := Lib.hid (pn_no (l := s.data.toList))
 by_cases h0 : s.size = 0
 · have hnil : s.toList = [] := by
     rw [ByteArray.toList_eq]
     exact List.eq_nil_of_length_eq_zero (by rw [size_list]; exact h0)
   have hnil2 : s.toList.isEmpty = true := by rw [hnil]; rfl
   have HP := Lib.hid (HNo.out (Or.inl (List.eq_nil_of_length_eq_zero (by rw [HSz.out]; exact h0))))
   clear h0
   go_enter Tryd.func80, Tryd.ntmps80
   go_wp2
   go_ret2
   exact ⟨by rw [HP.out]; rfl, rfl⟩
 · have hne : s.toList.isEmpty = false := by
     rw [ByteArray.toList_eq]
     cases hd : s.data.toList with
     | nil => exact absurd (by rw [← size_list, hd]; rfl) h0
     | cons x r => rfl
   have hpos : 0 < s.size := by omega
   by_cases h4 : 4 < s.size
   · have HP := Lib.hid (HNo.out (Or.inr (Or.inl (by rw [HSz.out]; exact h4))))
     go_enter Tryd.func80, Tryd.ntmps80
     go_wp2
     go_ret2
     exact ⟨by rw [HP.out]; rfl, rfl⟩
   · have HH := Lib.hid (head_at s hpos)
     by_cases c3 : s[0] = 48
     · have HP := Lib.hid (HNo.out (Or.inr (Or.inr (Or.inl (by rw [HH.out, c3])))))
       have e3 : ((s[0].toNat : Int) == 48) = true := by rw [c3]; decide
       clear c3
       go_enter Tryd.func80, Tryd.ntmps80
       go_wp2
       go_ret2
       exact ⟨by rw [HP.out]; rfl, rfl⟩
     · have e3 : ((s[0].toNat : Int) == 48) = false := by
         rw [beq_eq_false_iff_ne]
         intro hh
         apply c3
         apply UInt8.toNat_inj.1
         have : (48 : UInt8).toNat = 48 := rfl
         omega
       have H3 : Hid (s.data.toList.head? ≠ some 48) := Lib.hid (by rw [HH.out]; intro hh; exact c3 (Option.some.inj hh))
       clear c3
       go_enter Tryd.func80, Tryd.ntmps80
       go_wp2
       go_loop [4, 20] (fun v i => ∃ k : Nat, k ≤ s.size ∧ i = .int .i64 k ∧ v = .int .i64 (val (s.data.toList.take k) : Nat) ∧ ∀ c ∈ s.data.toList.take k, isDig c = true) (fun _ i => s.size - (intOf i).toNat)
       case atStart => exact ⟨0, Nat.zero_le _, rfl, rfl, by intro c hc; simp at hc⟩
       case round =>
         obtain ⟨k, hk, rfl, rfl, had⟩ := hrel
         have hv := val_lt4 (s.data.toList.take k) had (by rw [List.length_take]; omega)
         have HD := Lib.hid had
         clear had
         by_cases hlt : k < s.size
         · have HG := Lib.hid (getD_at s k hlt)
           by_cases c1 : 48 ≤ (s[k].toNat : Int)
           · by_cases c2 : (s[k].toNat : Int) ≤ 57
             · have HT := Lib.hid (take_snoc s k hlt)
               have HV := Lib.hid (val_snoc (s.data.toList.take k) s[k])
               have HGG : Hid (isDig s[k] = true) := Lib.hid (by unfold isDig; rw [decide_eq_true_eq]; omega)
               go_wp2
               go_round
               case rel => exact ⟨k + 1, by omega, by go_num, by rw [HT.out, HV.out]; congr 1; push_cast; omega, by
                 rw [HT.out]
                 intro c hc
                 rcases List.mem_append.1 hc with h | h
                 · exact HD.out c h
                 · rw [List.mem_singleton.1 h]; exact HGG.out⟩
               case measure => simp [intOf]; omega
             · have HP := Lib.hid (HNo.out (Or.inr (Or.inr (Or.inr ⟨k, by rw [HSz.out]; exact hlt, by rw [HG.out]; unfold isDig; rw [decide_eq_false_iff_not]; omega⟩))))
               go_wp2
               go_ret2
               exact ⟨by rw [HP.out]; rfl, rfl⟩
           · have HP := Lib.hid (HNo.out (Or.inr (Or.inr (Or.inr ⟨k, by rw [HSz.out]; exact hlt, by rw [HG.out]; unfold isDig; rw [decide_eq_false_iff_not]; omega⟩))))
             go_wp2
             go_ret2
             exact ⟨by rw [HP.out]; rfl, rfl⟩
         · obtain rfl : k = s.size := by omega
           have HP : Hid (pnV s.data.toList = .tuple #[.int .i64 (val (s.data.toList.take s.size) : Nat), .bool true]) := Lib.hid (by
             have ht : s.data.toList.take s.size = s.data.toList := List.take_of_length_le (by rw [HSz.out]; omega)
             have hd := HD.out
             rw [ht] at hd
             have hp : parseP s.data.toList = true := by
               unfold parseP
               rw [decide_eq_true_eq]
               refine ⟨?_, by rw [HSz.out]; omega, H3.out, hd⟩
               intro hh
               have := HSz.out
               rw [hh] at this
               simp at this
               omega
             unfold pnV
             rw [hp, ht]; rfl)
           go_wp2
           go_ret2
           exact ⟨by rw [HP.out]; rfl, rfl⟩
end Go.Proofs.YtiohjjgncbhimaaDoor
namespace Go.Proofs.YtiohjjgncbhimaaDoor
open Go.RowKit (wrap32 wrap64 intOf Hid Below)
open Lab
def Tab (w : World) : Prop := True ∧ Lib.Utf8Tabs 0 1 w
theorem Tab.below {w w' : World} (h : Tab w) (hb : Below w.heap.size w w') : Tab w' :=
 ⟨trivial, Utf8Tabs_below h.2 hb⟩
theorem cap_pays (w : World) : PredAt Tryd.prog 79 #[] encR capR w := fun W r _ => by
 unfold FnGives
 by_cases h1 : (65 : Int) ≤ (r : Int)
 · by_cases h2 : (r : Int) ≤ 90
   · have hp : capR r = true := by unfold capR; rw [decide_eq_true_eq]; omega
     rw [hp]
     clear hp
     go_enter Tryd.func79, Tryd.ntmps79
     go_wp2
     go_ret
     exact ⟨rfl, 0, rfl⟩
   · have hp : capR r = false := by unfold capR; rw [decide_eq_false_iff_not]; omega
     rw [hp]
     clear hp
     go_enter Tryd.func79, Tryd.ntmps79
     go_wp2
     go_ret
     exact ⟨rfl, 0, rfl⟩
 · have hp : capR r = false := by unfold capR; rw [decide_eq_false_iff_not]; omega
   rw [hp]
   clear hp
   go_enter Tryd.func79, Tryd.ntmps79
   go_wp2
   go_ret
   exact ⟨rfl, 0, rfl⟩
set_option maxHeartbeats 1000000 in
theorem split_any (s : ByteArray) (w : World) (hT : Tab w) (hs : s.size ≤ 1000000) :
   Calls Tryd.prog 76 #[.string s] w fun e w' => e = .returned (spV s.data.toList) ∧ Below w.heap.size w w' := by
 obtain ⟨e, he, hcut⟩ := trim_cut s
 have hel : e ≤ s.size := by rw [← size_list]; exact hcut.1
 obtain ⟨D, hD⟩ : ∃ D, D = s.extract 0 e := ⟨_, rfl⟩
 have hDl : D.data.toList = s.data.toList.take e := by rw [hD]; exact ext_take s e
 have hDs : D.size = e := by rw [← size_list, hDl, List.length_take, size_list]; omega
 subst hDs
 rw [← hD] at he
 have HTr : Hid (Calls Tryd.prog 78 #[.string s, .func (.func 79) #[] #[]] w fun e w' => e = .returned (.string D) ∧ Below w.heap.size w w') := Lib.hid (by
   rw [← he]
   exact Tryd.strings_TrimRightFunc 79 #[] (Go.Proofs.enters_of Tryd.func79 (by kernel_rfl) rfl) capR s w (by omega) hT.2 (cap_pays w))
 have HPn : Hid (∀ W, Calls Tryd.prog 80 #[.string D] W fun e w' => e = .returned (pnV (s.data.toList.take D.size)) ∧ W = w') := Lib.hid fun W => by
   rw [← hDl]
   exact parse_any D W (by omega)
 have HSz := Lib.hid (size_list s)
 clear hT hD hDl he
 cases hp : parseP (s.data.toList.take D.size) with
 | false =>
   have HS : Hid (spV s.data.toList = .tuple #[.int .i64 0, .string ⟨#[]⟩]) := Lib.hid (by unfold spV; rw [split_cut hcut (Or.inl hp)]; rfl)
   have HV : Hid (pnV (s.data.toList.take D.size) = .tuple #[.int .i64 0, .bool false]) := Lib.hid (by unfold pnV; rw [hp]; rfl)
   rw [HV.out] at HPn
   clear hcut hp
   go_enter Tryd.func76, Tryd.ntmps76
   go_wp2_with (first
     | (go_at_call 78; ((with_reducible refine (HTr.out).mono ?_); rintro e w1 ⟨rfl, hb1⟩))
     | (go_at_call 80; ((with_reducible refine (HPn.out _).mono ?_); rintro e w2 ⟨rfl, rfl⟩)))
   go_ret2
   exact ⟨by rw [HS.out]; rfl, hb1⟩
 | true =>
   have HV : Hid (pnV (s.data.toList.take D.size) = .tuple #[.int .i64 (val (s.data.toList.take D.size) : Nat), .bool true]) := Lib.hid (by unfold pnV; rw [hp]; rfl)
   rw [HV.out] at HPn
   by_cases h3 : 3 < s.size - D.size
   · have HS : Hid (spV s.data.toList = .tuple #[.int .i64 0, .string ⟨#[]⟩]) := Lib.hid (by unfold spV; rw [split_cut hcut (Or.inr (by rw [HSz.out]; exact h3))]; rfl)
     clear hcut hp
     go_enter Tryd.func76, Tryd.ntmps76
     go_wp2_with (first
       | (go_at_call 78; ((with_reducible refine (HTr.out).mono ?_); rintro e w1 ⟨rfl, hb1⟩))
       | (go_at_call 80; ((with_reducible refine (HPn.out _).mono ?_); rintro e w2 ⟨rfl, rfl⟩)))
     go_ret2
     exact ⟨by rw [HS.out]; rfl, hb1⟩
   · have HS : Hid (spV s.data.toList = .tuple #[.int .i64 (val (s.data.toList.take D.size) : Nat), .string (s.extract D.size s.size)]) := Lib.hid (by
       unfold spV
       rw [split_yes hcut hp (by rw [HSz.out]; omega)]
       rw [← eq_mk (ext_drop s D.size)])
     clear hcut hp
     go_enter Tryd.func76, Tryd.ntmps76
     go_wp2_with (first
       | (go_at_call 78; ((with_reducible refine (HTr.out).mono ?_); rintro e w1 ⟨rfl, hb1⟩))
       | (go_at_call 80; ((with_reducible refine (HPn.out _).mono ?_); rintro e w2 ⟨rfl, rfl⟩)))
     go_ret2
     exact ⟨by rw [HS.out]; rfl, hb1⟩
theorem valid_any (s : ByteArray) (w : World) (hT : Tab w) (hs : s.size ≤ 1000000) :
   Calls Tryd.prog 73 #[.string s] w fun e w' => e = .returned (.bool (mayL s.data.toList)) ∧ Below w.heap.size w w' := by
 have HS := Lib.hid (split_any s w hT hs)
 have hz := split_zero s.data.toList
 unfold spV at HS
 obtain ⟨n, hn⟩ : ∃ n, n = (splitL s.data.toList).1 := ⟨_, rfl⟩
 obtain ⟨c, hc⟩ : ∃ c, c = mk (splitL s.data.toList).2 := ⟨_, rfl⟩
 rw [← hn, ← hc] at HS
 rw [← hn] at hz
 cases hm : mayL s.data.toList with
 | false =>
   obtain rfl : n = 0 := hz.2 hm
   clear hz hn hc hm hT
   go_enter Tryd.func73, Tryd.ntmps73
   go_wp2_with (go_at_call 76; ((with_reducible refine (HS.out).mono ?_); rintro e w1 ⟨rfl, hb1⟩))
   go_ret
   exact ⟨rfl, hb1⟩
 | true =>
   have h0 : 0 < n := by
     rcases Nat.eq_zero_or_pos n with h | h
     · rw [hz.1 h] at hm; cases hm
     · exact h
   clear hz hn hc hm hT
   go_enter Tryd.func73, Tryd.ntmps73
   go_wp2_with (go_at_call 76; ((with_reducible refine (HS.out).mono ?_); rintro e w1 ⟨rfl, hb1⟩))
   go_ret
   exact ⟨ret_bool (by first | rfl | (rw [decide_eq_true_eq]; omega)), hb1⟩
end Go.Proofs.YtiohjjgncbhimaaDoor
namespace Go.Proofs.YtiohjjgncbhimaaDoor
namespace Lcs
abbrev Str := ByteArray
def lcs : List Str → List Str → Nat
 | [], _ => 0
 | _ :: _, [] => 0
 | x :: xs, y :: ys => if x = y then lcs xs ys + 1 else max (lcs xs (y :: ys)) (lcs (x :: xs) ys)
termination_by a b => a.length + b.length
def T (a b : List Str) (i j : Nat) : Nat := lcs (a.drop i) (b.drop j)
def st (L : List Str) (k : Nat) : Str := L.getD k ByteArray.empty
theorem st_eq {L : List Str} {k : Nat} (hk : k < L.length) : st L k = L[k] := by
 unfold st
 rw [List.getD, List.getElem?_eq_getElem hk]
 rfl
def Chain (a b : List Str) : Nat → Nat → List (Nat × Nat) → Prop
 | _, _, [] => True
 | i, f, p :: r => i ≤ p.1 ∧ f ≤ p.2 ∧ p.1 < a.length ∧ p.2 < b.length ∧ st a p.1 = st b p.2 ∧ Chain a b (p.1 + 1) (p.2 + 1) r
theorem Chain.low {a b : List Str} : ∀ {r : List (Nat × Nat)} {i f i' f' : Nat}, Chain a b i f r → i' ≤ i → f' ≤ f → Chain a b i' f' r
 | [], _, _, _, _, _, _, _ => trivial
 | _ :: _, _, _, _, _, h, h1, h2 => ⟨Nat.le_trans h1 h.1, Nat.le_trans h2 h.2.1, h.2.2⟩
end Lcs
end Go.Proofs.YtiohjjgncbhimaaDoor
