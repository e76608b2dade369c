/-
  The plain mathematics of labels: their text, splitting, order, successors, and what lies between.
-/
import Derived.Lib.ItoaNum
import Derived.Test.YtkjgmnmngbfhhaaDoorTrim
namespace Go.Proofs.YtkjgmnmngbfhhaaDoor
namespace Lab
def isDig (c : UInt8) : Bool := decide (48 ≤ c.toNat ∧ c.toNat ≤ 57)
def valA (a : Nat) (l : Bs) : Nat := l.foldl (fun n c => n * 10 + (c.toNat - 48)) a
def val (l : Bs) : Nat := valA 0 l
theorem val_snoc (l : Bs) (c : UInt8) : val (l ++ [c]) = val l * 10 + (c.toNat - 48) := by simp [val, valA]
theorem d8_toNat (u : Nat) (h : u < 10) : (UInt8.ofNat (48 + u)).toNat = 48 + u := by
 rw [UInt8.toNat_ofNat']; omega
theorem dec_small {u : Nat} (h : u < 10) : Lib.decDigits u = [UInt8.ofNat (48 + u)] := Lib.decDigits_one h
theorem dec_big {u : Nat} (h : ¬ u < 10) : Lib.decDigits u = Lib.decDigits (u / 10) ++ [UInt8.ofNat (48 + u % 10)] := by rw [Lib.decDigits, dif_neg h]
theorem dec_ind {P : Nat → Prop} (h0 : ∀ u, u < 10 → P u) (h1 : ∀ u, ¬ u < 10 → P (u / 10) → P u) : ∀ u, P u := by
 intro u
 induction u using Nat.strongRecOn with
 | _ u ih =>
   by_cases h : u < 10
   · exact h0 u h
   · exact h1 u h (ih (u / 10) (by omega))
theorem dec_dig (u : Nat) : ∀ c ∈ Lib.decDigits u, isDig c = true := by
 refine dec_ind (P := fun u => ∀ c ∈ Lib.decDigits u, isDig c = true) (fun u h c hc => ?_) (fun u h ih c hc => ?_) u
 · rw [dec_small h] at hc
   have : c = UInt8.ofNat (48 + u) := by simpa using hc
   rw [this]
   unfold isDig
   rw [d8_toNat u h, decide_eq_true_eq]; omega
 · rw [dec_big h] at hc
   rcases List.mem_append.1 hc with hc | hc
   · exact ih c hc
   · have : c = UInt8.ofNat (48 + u % 10) := by simpa using hc
     rw [this]
     unfold isDig
     rw [d8_toNat _ (by omega), decide_eq_true_eq]; omega
theorem dec_ne (u : Nat) : Lib.decDigits u ≠ [] := by
 by_cases h : u < 10
 · rw [dec_small h]; simp
 · rw [dec_big h]; simp
theorem dec_head (u : Nat) (hu : 1 ≤ u) : (Lib.decDigits u).head? ≠ some 48 := by
 refine dec_ind (P := fun u => 1 ≤ u → (Lib.decDigits u).head? ≠ some 48) (fun u h hu => ?_) (fun u h ih hu => ?_) u hu
 · rw [dec_small h]
   intro he
   have h1 : UInt8.ofNat (48 + u) = 48 := by simpa using he
   have h2 := congrArg UInt8.toNat h1
   rw [d8_toNat u h] at h2
   have h3 : (48 : UInt8).toNat = 48 := rfl
   omega
 · rw [dec_big h]
   intro he
   apply ih (by omega)
   cases hd : Lib.decDigits (u / 10) with
   | nil => exact absurd hd (dec_ne _)
   | cons x r =>
     rw [hd] at he
     simpa using he
theorem dec_len (u : Nat) (h : u ≤ 9999) : (Lib.decDigits u).length ≤ 4 := by
 by_cases h1 : u < 10
 · rw [dec_small h1]; simp
 · rw [dec_big h1, List.length_append]
   by_cases h2 : u / 10 < 10
   · rw [dec_small h2]; simp
   · rw [dec_big h2, List.length_append]
     by_cases h3 : u / 10 / 10 < 10
     · rw [dec_small h3]; simp
     · rw [dec_big h3, List.length_append, dec_small (by omega)]; simp
theorem valA_lt : ∀ (l : Bs), (∀ c ∈ l, isDig c = true) → ∀ a : Nat, valA a l < (a + 1) * 10 ^ l.length
 | [], _, a => by simp [valA]
 | c :: r, h, a => by
   have hc := h c (by simp)
   unfold isDig at hc
   rw [decide_eq_true_eq] at hc
   have ih := valA_lt r (fun x hx => h x (by simp [hx])) (a * 10 + (c.toNat - 48))
   have e : valA a (c :: r) = valA (a * 10 + (c.toNat - 48)) r := rfl
   rw [e, List.length_cons, Nat.pow_succ, Nat.mul_comm (10 ^ r.length) 10, ← Nat.mul_assoc]
   exact Nat.lt_of_lt_of_le ih (Nat.mul_le_mul_right _ (by omega))
theorem val_lt4 (l : Bs) (h : ∀ c ∈ l, isDig c = true) (hl : l.length ≤ 4) : val l < 10000 := by
 have h1 := valA_lt l h 0
 have h2 : 10 ^ l.length ≤ 10 ^ 4 := Nat.pow_le_pow_right (by omega) hl
 unfold val
 omega
theorem valA_ge : ∀ (l : Bs) (a : Nat), a ≤ valA a l
 | [], a => Nat.le_refl _
 | c :: r, a => by
   have := valA_ge r (a * 10 + (c.toNat - 48))
   have e : valA a (c :: r) = valA (a * 10 + (c.toNat - 48)) r := rfl
   omega
theorem val_pos (l : Bs) (h : ∀ c ∈ l, isDig c = true) (hne : l ≠ []) (h0 : l.head? ≠ some 48) : 1 ≤ val l := by
 cases l with
 | nil => exact absurd rfl hne
 | cons c r =>
   have hc := h c (by simp)
   unfold isDig at hc
   rw [decide_eq_true_eq] at hc
   have hc48 : c.toNat ≠ 48 := by
     intro he
     apply h0
     have : c = 48 := UInt8.toNat_inj.1 he
     simp [this]
   have := valA_ge r (0 * 10 + (c.toNat - 48))
   have e : val (c :: r) = valA (0 * 10 + (c.toNat - 48)) r := rfl
   omega
theorem dec_of : ∀ (k : Nat) (l : Bs), l.length = k → (∀ c ∈ l, isDig c = true) → l ≠ [] → l.head? ≠ some 48 → Lib.decDigits (val l) = l
 | 0, l, hk, _, hne, _ => absurd (List.eq_nil_of_length_eq_zero hk) hne
 | k + 1, l, hk, h, hne, h0 => by
   rcases List.eq_nil_or_concat l with rfl | ⟨r, c, rfl⟩
   · exact absurd rfl hne
   · rw [List.concat_eq_append] at *
     have hc := h c (by simp)
     unfold isDig at hc
     rw [decide_eq_true_eq] at hc
     have ec : UInt8.ofNat (48 + (c.toNat - 48)) = c := by
       rw [show 48 + (c.toNat - 48) = c.toNat by omega]; simp
     rw [val_snoc]
     by_cases hr : r = []
     · subst hr
       rw [show val [] * 10 + (c.toNat - 48) = c.toNat - 48 by simp [val, valA], dec_small (by omega), ec]
       rfl
     · have hd : ∀ x ∈ r, isDig x = true := fun x hx => h x (by simp [hx])
       have hh : r.head? ≠ some 48 := by
         cases r with
         | nil => exact absurd rfl hr
         | cons y r => simpa using h0
       have hv := val_pos r hd hr hh
       rw [dec_big (by omega), show (val r * 10 + (c.toNat - 48)) / 10 = val r by omega, show (val r * 10 + (c.toNat - 48)) % 10 = c.toNat - 48 by omega, ec, dec_of k r (by simpa using hk) hd hr hh]
def Ok (n : Nat) (c : Bs) : Prop := 1 ≤ n ∧ n ≤ 9999 ∧ c.length ≤ 3 ∧ ∀ b ∈ c, isCap b = true
def txt (n : Nat) (c : Bs) : Bs := Lib.decDigits n ++ c
def mayL (l : Bs) : Bool := decide (1 ≤ (l.takeWhile isDig).length ∧ (l.takeWhile isDig).length ≤ 4 ∧ l.head? ≠ some 48 ∧ (l.dropWhile isDig).length ≤ 3 ∧ ∀ b ∈ l.dropWhile isDig, isCap b = true)
def splitL (l : Bs) : Nat × Bs := if mayL l then (val (l.takeWhile isDig), l.dropWhile isDig) else (0, [])
theorem cap_nodig {b : UInt8} (h : isCap b = true) : isDig b = false := by
 unfold isCap at h
 unfold isDig
 rw [decide_eq_true_eq] at h
 rw [decide_eq_false_iff_not]; omega
theorem take_dig : ∀ (d c : Bs), (∀ b ∈ d, isDig b = true) → (∀ b ∈ c, isCap b = true) → (d ++ c).takeWhile isDig = d ∧ (d ++ c).dropWhile isDig = c
 | [], [], _, _ => ⟨rfl, rfl⟩
 | [], b :: c, _, h => by
   have hb := cap_nodig (h b (by simp))
   simp [hb]
 | x :: d, c, hd, hc => by
   have hx := hd x (by simp)
   obtain ⟨h1, h2⟩ := take_dig d c (fun b hb => hd b (by simp [hb])) hc
   constructor
   · rw [List.cons_append, List.takeWhile_cons, hx, if_pos rfl, h1]
   · rw [List.cons_append, List.dropWhile_cons, hx, if_pos rfl, h2]
theorem head_app {d c : Bs} (hd : d ≠ []) : (d ++ c).head? = d.head? := by
 cases d with
 | nil => exact absurd rfl hd
 | cons x d => rfl
theorem take_all_dig (l : Bs) : ∀ b ∈ l.takeWhile isDig, isDig b = true := by
 induction l with
 | nil => simp
 | cons x l ih =>
   intro b hb
   rw [List.takeWhile_cons] at hb
   split at hb
   · rcases List.mem_cons.1 hb with rfl | hb
     · assumption
     · exact ih b hb
   · cases hb
theorem may_ok {l : Bs} (h : mayL l = true) : Ok (splitL l).1 (splitL l).2 ∧ l = txt (splitL l).1 (splitL l).2 := by
 have h' := h
 unfold mayL at h
 rw [decide_eq_true_eq] at h
 obtain ⟨h1, h2, h3, h4, h5⟩ := h
 have e : l = l.takeWhile isDig ++ l.dropWhile isDig := List.takeWhile_append_dropWhile.symm
 have hne : l.takeWhile isDig ≠ [] := List.length_pos_iff.1 h1
 have hh : (l.takeWhile isDig).head? ≠ some 48 := by
   rw [e, head_app hne] at h3
   exact h3
 unfold splitL
 rw [if_pos h']
 have hv := dec_of _ _ rfl (take_all_dig l) hne hh
 refine ⟨⟨val_pos _ (take_all_dig l) hne hh, by have := val_lt4 _ (take_all_dig l) h2; omega, h4, h5⟩, ?_⟩
 unfold txt
 rw [hv]
 exact e
theorem split_no {l : Bs} (h : mayL l = false) : splitL l = (0, []) := by unfold splitL; rw [h]; rfl
theorem split_zero (l : Bs) : (splitL l).1 = 0 ↔ mayL l = false := by
 constructor
 · intro h
   cases hm : mayL l with
   | false => rfl
   | true =>
     have := (may_ok hm).1.1
     omega
 · intro h
   rw [split_no h]
theorem may_bytes {l : Bs} (h : mayL l = true) : ∀ b ∈ l, isDig b = true ∨ isCap b = true := by
 obtain ⟨⟨_, _, _, h4⟩, e⟩ := may_ok h
 intro b hb
 rw [e] at hb
 rcases List.mem_append.1 hb with hb | hb
 · exact Or.inl (dec_dig _ b hb)
 · exact Or.inr (h4 b hb)
def parseP (d : Bs) : Bool := decide (d ≠ [] ∧ d.length ≤ 4 ∧ d.head? ≠ some 48 ∧ ∀ b ∈ d, isDig b = true)
theorem getD_mem {l : Bs} {k : Nat} (hk : k < l.length) : l.getD k 0 ∈ l := by
 rw [List.getD, List.getElem?_eq_getElem hk]
 exact List.getElem_mem hk
theorem split_yes {l : Bs} {e : Nat} (hc : CutAt l e) (hp : parseP (l.take e) = true) (h3 : l.length - e ≤ 3) : splitL l = (val (l.take e), l.drop e) := by
 unfold parseP at hp
 rw [decide_eq_true_eq] at hp
 obtain ⟨p1, p2, p3, p4⟩ := hp
 obtain ⟨he, hc⟩ := hc
 have hcaps : ∀ b ∈ l.drop e, isCap b = true := by
   rcases hc with ⟨hc, _⟩ | ⟨m, hm, hb⟩
   · intro b hb
     obtain ⟨i, hi, rfl⟩ := List.getElem_of_mem hb
     rw [List.length_drop] at hi
     have := hc (e + i) (by omega) (by omega)
     rw [List.getD, List.getElem?_eq_getElem (by omega)] at this
     rw [List.getElem_drop]
     exact this
   · have hmem : l.getD m 0 ∈ l.take e := by
       have := getD_mem (l := l.take e) (k := m) (by rw [List.length_take]; omega)
       rwa [show (l.take e).getD m 0 = l.getD m 0 by simp [List.getD, hm]] at this
     have := p4 _ hmem
     unfold isDig at this
     rw [decide_eq_true_eq] at this
     omega
 obtain ⟨e1, e2⟩ := take_dig (l.take e) (l.drop e) p4 hcaps
 rw [List.take_append_drop] at e1 e2
 have hm : mayL l = true := by
   unfold mayL
   rw [decide_eq_true_eq, e1, e2, List.length_drop]
   refine ⟨List.length_pos_iff.2 p1, p2, ?_, h3, hcaps⟩
   rw [← head_app (c := l.drop e) p1, List.take_append_drop] at p3
   exact p3
 unfold splitL
 rw [if_pos hm, e1, e2]
theorem split_cut {l : Bs} {e : Nat} (hc : CutAt l e) (h : parseP (l.take e) = false ∨ 3 < l.length - e) : splitL l = (0, []) := by
 cases hm : mayL l with
 | false => exact split_no hm
 | true =>
   exfalso
   obtain ⟨⟨h1, h2, h3, h4⟩, el⟩ := may_ok hm
   obtain ⟨n, hn⟩ : ∃ n, n = (splitL l).1 := ⟨_, rfl⟩
   obtain ⟨c, hcc⟩ : ∃ c, c = (splitL l).2 := ⟨_, rfl⟩
   rw [← hn, ← hcc] at el
   rw [← hn] at h1 h2
   rw [← hcc] at h3 h4
   obtain ⟨he, hc⟩ := hc
   have hll : l.length = (Lib.decDigits n).length + c.length := by rw [el]; unfold txt; rw [List.length_append]
   have hlow : ∀ k, k < (Lib.decDigits n).length → isDig (l.getD k 0) = true := by
     intro k hk
     rw [el]
     unfold txt
     rw [List.getD, List.getElem?_append_left hk, List.getElem?_eq_getElem hk]
     exact dec_dig n _ (List.getElem_mem hk)
   have hhigh : ∀ k, (Lib.decDigits n).length ≤ k → k < l.length → isCap (l.getD k 0) = true := by
     intro k hk hk2
     have hk3 : k - (Lib.decDigits n).length < c.length := by omega
     rw [el]
     unfold txt
     rw [List.getD, List.getElem?_append_right hk, List.getElem?_eq_getElem hk3]
     exact h4 _ (List.getElem_mem hk3)
   have hee : e = (Lib.decDigits n).length := by
     rcases hc with ⟨ha, hb⟩ | ⟨m, hm', hb⟩
     · rcases Nat.lt_trichotomy e (Lib.decDigits n).length with hh | hh | hh
       · have x1 := ha e (Nat.le_refl _) (by omega)
         have x2 := hlow e hh
         rw [cap_nodig x1] at x2
         cases x2
       · exact hh
       · have x1 := hb (by omega)
         have x2 := hhigh (e - 1) (by omega) (by omega)
         rw [x1] at x2
         cases x2
     · have x := may_bytes hm _ (getD_mem (k := m) (by omega))
       unfold isDig isCap at x
       rw [decide_eq_true_eq, decide_eq_true_eq] at x
       omega
   have htake : l.take e = Lib.decDigits n := by rw [hee, el]; unfold txt; rw [List.take_left]
   rcases h with h | h
   · rw [htake] at h
     have hp : parseP (Lib.decDigits n) = true := by
       unfold parseP
       rw [decide_eq_true_eq]
       exact ⟨dec_ne n, dec_len n h2, dec_head n h1, dec_dig n⟩
     rw [hp] at h
     cases h
   · omega
end Lab
end Go.Proofs.YtkjgmnmngbfhhaaDoor
