/-
  The plain mathematics of sets of days: lists of spans, membership, canonical lists, and that a canonical list is determined by its days. It imports nothing of the program.
-/
namespace Go.Proofs.Ytmgjpmjmondplaa
namespace Spans
abbrev Sp := Int × Int
def memB : List Sp → Int → Bool
 | [], _ => false
 | s :: r, d => decide (s.1 ≤ d ∧ d < s.2) || memB r d
def SepL : Int → List Sp → Prop
 | _, [] => True
 | lo, s :: r => lo < s.1 ∧ s.1 < s.2 ∧ s.2 ≤ 1048577 ∧ SepL s.2 r
theorem memB_app (a b : List Sp) (d : Int) : memB (a ++ b) d = (memB a d || memB b d) := by
 induction a with
 | nil => simp [memB]
 | cons s r ih => simp [memB, ih, Bool.or_assoc]
theorem mem_low : ∀ (L : List Sp) (lo d : Int), SepL lo L → d ≤ lo → memB L d = false
 | [], _, _, _, _ => rfl
 | s :: r, lo, d, h, hd => by
   obtain ⟨h1, h2, _, h4⟩ := h
   rw [memB, mem_low r s.2 d h4 (by omega)]
   simp
   omega
theorem mem_high : ∀ (L : List Sp) (lo d : Int), SepL lo L → 1048577 ≤ d → memB L d = false
 | [], _, _, _, _ => rfl
 | s :: r, lo, d, h, hd => by
   obtain ⟨h1, h2, h3, h4⟩ := h
   rw [memB, mem_high r s.2 d h4 hd]
   simp
   omega
theorem mem_head {s : Sp} {r : List Sp} (d : Int) (h1 : s.1 ≤ d) (h2 : d < s.2) : memB (s :: r) d = true := by
 rw [memB]
 simp [h1, h2]
theorem mem_tail {s : Sp} {r : List Sp} (d : Int) (h : d < s.1 ∨ s.2 ≤ d) : memB (s :: r) d = memB r d := by
 rw [memB]
 have : decide (s.1 ≤ d ∧ d < s.2) = false := by rw [decide_eq_false_iff_not]; omega
 rw [this, Bool.false_or]
theorem sep_unique : ∀ (a b : List Sp) (lo : Int), -1 ≤ lo → SepL lo a → SepL lo b → (∀ d, lo < d → d ≤ 1048576 → memB a d = memB b d) → a = b
 | [], [], _, _, _, _, _ => rfl
 | [], t :: q, lo, hlo, _, hb, h => by
   obtain ⟨h1, h2, h3, _⟩ := hb
   have := h t.1 h1 (by omega)
   rw [mem_head t.1 (by omega) h2] at this
   cases this
 | s :: r, [], lo, hlo, ha, _, h => by
   obtain ⟨h1, h2, h3, _⟩ := ha
   have := h s.1 h1 (by omega)
   rw [mem_head s.1 (by omega) h2] at this
   cases this
 | s :: r, t :: q, lo, hlo, ha, hb, h => by
   obtain ⟨a1, a2, a3, a4⟩ := ha
   obtain ⟨b1, b2, b3, b4⟩ := hb
   have e1 : s.1 = t.1 := by
     rcases Int.lt_trichotomy s.1 t.1 with hh | hh | hh
     · have := h s.1 a1 (by omega)
       rw [mem_head s.1 (by omega) a2, mem_tail s.1 (Or.inl hh), mem_low q t.2 s.1 b4 (by omega)] at this
       cases this
     · exact hh
     · have := h t.1 b1 (by omega)
       rw [mem_head t.1 (by omega) b2, mem_tail t.1 (Or.inl hh), mem_low r s.2 t.1 a4 (by omega)] at this
       cases this
   have e2 : s.2 = t.2 := by
     rcases Int.lt_trichotomy s.2 t.2 with hh | hh | hh
     · have := h s.2 (by omega) (by omega)
       rw [mem_head (s := t) s.2 (by omega) hh, mem_tail s.2 (Or.inr (by omega)), mem_low r s.2 s.2 a4 (by omega)] at this
       cases this
     · exact hh
     · have := h t.2 (by omega) (by omega)
       rw [mem_head (s := s) t.2 (by omega) hh, mem_tail (s := t) t.2 (Or.inr (by omega)), mem_low q t.2 t.2 b4 (by omega)] at this
       cases this
   have es : s = t := Prod.ext e1 e2
   subst es
   congr 1
   refine sep_unique r q s.2 (by omega) a4 b4 fun d hd hd2 => ?_
   have := h d (by omega) hd2
   rwa [mem_tail d (Or.inr (by omega)), mem_tail d (Or.inr (by omega))] at this
def Is (R : List Sp) (P : Int → Bool) : Prop := SepL (-1) R ∧ ∀ d, 0 ≤ d → d ≤ 1048576 → memB R d = P d
theorem Is.unique {R S : List Sp} {P Q : Int → Bool} (hR : Is R P) (hS : Is S Q) (h : ∀ d, 0 ≤ d → d ≤ 1048576 → P d = Q d) : R = S :=
 sep_unique R S (-1) (by omega) hR.1 hS.1 fun d h0 h1 => by rw [hR.2 d (by omega) h1, hS.2 d (by omega) h1, h d (by omega) h1]
theorem Is.congr {R : List Sp} {P Q : Int → Bool} (hR : Is R P) (h : ∀ d, 0 ≤ d → d ≤ 1048576 → P d = Q d) : Is R Q :=
 ⟨hR.1, fun d h0 h1 => by rw [hR.2 d h0 h1, h d h0 h1]⟩
theorem Is.all {R : List Sp} {P : Int → Bool} (hR : Is R P) (d : Int) : memB R d = (decide (0 ≤ d ∧ d ≤ 1048576) && P d) := by
 by_cases h : 0 ≤ d ∧ d ≤ 1048576
 · rw [hR.2 d h.1 h.2]; simp [h]
 · have : decide (0 ≤ d ∧ d ≤ 1048576) = false := by rw [decide_eq_false_iff_not]; exact h
   rw [this, Bool.false_and]
   by_cases h0 : d < 0
   · exact mem_low R (-1) d hR.1 (by omega)
   · exact mem_high R (-1) d hR.1 (by omega)
theorem sep_snoc : ∀ (L : List Sp) (lo f t : Int) (s : Sp), SepL lo (L ++ [(f, t)]) → t < s.1 → s.1 < s.2 → s.2 ≤ 1048577 → SepL lo (L ++ [(f, t)] ++ [s])
 | [], lo, f, t, s, h, h1, h2, h3 => by
   obtain ⟨a, b, c, _⟩ := h
   exact ⟨a, b, c, h1, h2, h3, trivial⟩
 | x :: L, lo, f, t, s, h, h1, h2, h3 => by
   obtain ⟨a, b, c, d⟩ := h
   exact ⟨a, b, c, sep_snoc L x.2 f t s d h1 h2 h3⟩
theorem sep_last : ∀ (L : List Sp) (lo f t u : Int), SepL lo (L ++ [(f, t)]) → t ≤ u → u ≤ 1048577 → SepL lo (L ++ [(f, u)])
 | [], lo, f, t, u, h, h1, h2 => by
   obtain ⟨a, b, c, _⟩ := h
   exact ⟨a, by simp only at b ⊢; omega, by simpa using h2, trivial⟩
 | x :: L, lo, f, t, u, h, h1, h2 => by
   obtain ⟨a, b, c, d⟩ := h
   exact ⟨a, b, c, sep_last L x.2 f t u d h1 h2⟩
theorem sep_end : ∀ (K : List Sp) (lo : Int) (x : Sp), SepL lo (K ++ [x]) → x.1 < x.2 ∧ x.2 ≤ 1048577
 | [], _, _, h => ⟨h.2.1, h.2.2.1⟩
 | y :: K, _, x, h => sep_end K y.2 x h.2.2.2
def apS (L : List Sp) (s : Sp) : List Sp :=
 match L.getLast? with
 | none => L ++ [s]
 | some x => if x.2 < s.1 then L ++ [s] else L.dropLast ++ [(x.1, max x.2 s.2)]
theorem apS_nil (s : Sp) : apS [] s = [s] := rfl
theorem apS_snoc (L : List Sp) (x s : Sp) : apS (L ++ [x]) s = if x.2 < s.1 then L ++ [x] ++ [s] else L ++ [(x.1, max x.2 s.2)] := by
 unfold apS
 simp
def LastLe (L : List Sp) (f : Int) : Prop := ∀ x, L.getLast? = some x → x.1 ≤ f
theorem apS_ok (L : List Sp) (s : Sp) (h : SepL (-1) L) (hl : LastLe L s.1) (h0 : 0 ≤ s.1) (h1 : s.1 < s.2) (h2 : s.2 ≤ 1048577) :
   SepL (-1) (apS L s) ∧ (∀ d, memB (apS L s) d = (memB L d || memB [s] d)) ∧ LastLe (apS L s) s.1 := by
 rcases List.eq_nil_or_concat L with rfl | ⟨K, x, rfl⟩
 · rw [apS_nil]
   exact ⟨⟨by omega, h1, h2, trivial⟩, fun d => by simp [memB], fun y hy => by simp at hy; subst hy; exact Int.le_refl _⟩
 · have hx : x.1 ≤ s.1 := hl x (by simp)
   rw [List.concat_eq_append] at h ⊢
   rw [apS_snoc]
   have hx2 := sep_end K (-1) x h
   by_cases hc : x.2 < s.1
   · rw [if_pos hc]
     exact ⟨sep_snoc K (-1) x.1 x.2 s h hc h1 h2, fun d => by rw [memB_app], fun y hy => by simp at hy; subst hy; exact Int.le_refl _⟩
   · rw [if_neg hc]
     refine ⟨sep_last K (-1) x.1 x.2 _ h (by omega) (by omega), fun d => ?_, fun y hy => by simp at hy; subst hy; exact hx⟩
     rw [memB_app, memB_app, Bool.or_assoc]
     congr 1
     simp only [memB, Bool.or_false]
     rw [Bool.eq_iff_iff]
     simp only [Bool.or_eq_true, decide_eq_true_eq]
     omega
end Spans
end Go.Proofs.Ytmgjpmjmondplaa
