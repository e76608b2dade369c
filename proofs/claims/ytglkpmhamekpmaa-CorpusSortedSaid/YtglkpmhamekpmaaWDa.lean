/-
  Corpus: small gazettes; the law of enacted items.
-/
import Derived.Test.YtglkpmhamekpmaaWCy
namespace Go.Proofs.Ytglkpmhamekpmaa.Po
open Go Go.Pv Go.RowKit
set_option linter.unusedSimpArgs false
open Lab Lcs Go.Proofs.Ytglkpmhamekpmaa Go.Proofs.Ytglkpmhamekpmaa.Pu
set_option maxRecDepth 10000
set_option maxHeartbeats 32000000
theorem shortW_len {w : List Wd} (h : shortW w = true) : w.length ≤ 300 := by
 unfold shortW at h
 simp only [Bool.and_eq_true, decide_eq_true_eq] at h
 exact h.2
theorem small_cpU (N : Nat) : ∀ u : Ut, u.count ≤ N → N ≤ 1000 → u.all.all fewB = true → CpU u := by
 induction N with
 | zero => intro u h; have := count_pos u; omega
 | succ N ih =>
 intro u hN hN2 hall
 have hcu := Ut.count_eq u
 have hkl := kids_counts u.kids
 have h := hall
 rw [all_cons, Bool.and_eq_true] at h
 obtain ⟨h1, h2⟩ := h
 unfold fewB at h1
 simp only [Bool.and_eq_true] at h1
 have g1 := shortW_len h1.1.2
 have g2 := shortW_len h1.2
 refine .mk u ⟨by omega, by omega, by omega⟩ fun x hx => ?_
 rw [alls_all, List.all_eq_true] at h2
 obtain ⟨k, hk, rfl⟩ := List.getElem_of_mem hx
 have hkc := kid_lt' (List.getElem?_eq_getElem hk)
 exact ih _ (by omega) (by omega) (h2 _ (List.getElem_mem _))
theorem fewI_parts {x : It} (h : fewI x = true) : x.p.length ≤ 12 ∧ x.q.length ≤ 12 ∧ x.old.length ≤ 300 ∧ x.new.length ≤ 300 ∧ x.bys.length ≤ 2 ∧ x.fr.size ≤ 100 ∧ x.se.size ≤ 100 ∧ x.ev.size ≤ 100 ∧ fewU x.unit 30 = true ∧ fewIs x.bys = true := by
 rw [fewI_eq] at h
 simp only [Bool.and_eq_true] at h
 obtain ⟨h1, _, _, _, _, h2⟩ := h
 unfold headB at h1
 simp only [Bool.and_eq_true, decide_eq_true_eq] at h1
 obtain ⟨⟨a1, a2, a3, a4, a5, a6, a7, a8, a9⟩, a10⟩ := h1
 exact ⟨a1, a2, a3, a4, a9, a6, a7, a8, a10, h2⟩
theorem fewIs_mem : ∀ {l : List It}, fewIs l = true → ∀ x ∈ l, fewI x = true
 | [], _, _, h => by cases h
 | y :: l, h, x, hx => by
   rw [fewIs, Bool.and_eq_true, Bool.and_eq_true] at h
   rcases List.mem_cons.1 hx with rfl | hx
   · exact h.1.2
   · exact fewIs_mem h.2 x hx
theorem few_cpI {x : It} (hf : FitT x) : fewI x = true → CpI x := by
 induction hf with
 | mk x hu h1 hb ih =>
 intro h
 obtain ⟨a1, a2, a3, a4, a5, _, _, _, a6, a7⟩ := fewI_parts h
 obtain ⟨s1, s2, s3⟩ := few_small (m := 30) a6
 exact .mk x (small_cpU 30 x.unit s1 (by omega) s3) ⟨by omega, by omega, by omega, by omega, by omega⟩ fun y hy => ih y hy (fewIs_mem a7 y hy)
structure Few30 (l : List Gz) (m : Nat) : Prop where
 len : l.length ≤ 8
 acts : ∀ g ∈ l, g.acts.length ≤ 8
 cnt : numZ l ≤ m
 num : numAs (allA l) ≤ m
 fit : ∀ g ∈ l, ∀ a ∈ g.acts, FitA a
 all : ∀ g ∈ l, ∀ a ∈ g.acts, a.title.size ≤ 100 ∧ a.se.size ≤ 60 ∧ ∀ x ∈ a.items, fewI x = true
theorem num_all (l : List Gz) : numAs (allA l) = numZ l := by
 unfold numAs numZ allA
 induction l with
 | nil => rfl
 | cons g l ih =>
   rw [List.flatMap_cons, List.map_append, List.sum_append, ih, List.map_cons, List.sum_cons]
   rfl
theorem few30 {l : List Gz} {m : Nat} (hm : m ≤ 1000) (hf : ∀ g ∈ l, FitGz g) (h : fewZ l m = true) : Few30 l m := by
 unfold fewZ at h
 simp only [Bool.and_eq_true, decide_eq_true_eq] at h
 obtain ⟨h1, h2, h3⟩ := h
 rw [List.all_eq_true] at h2
 have hz : numZ l ≤ m := by omega
 have ha : ∀ g ∈ l, g.acts.length ≤ 8 ∧ ∀ a ∈ g.acts, okA a = true := fun g hg => by
   have := h2 g hg
   unfold okG at this
   simp only [Bool.and_eq_true, decide_eq_true_eq, List.all_eq_true] at this
   exact ⟨this.1.1, this.2⟩
 have hb : ∀ g ∈ l, ∀ a ∈ g.acts, a.title.size ≤ 100 ∧ a.se.size ≤ 60 ∧ ∀ x ∈ a.items, fewI x = true := fun g hg a hag => by
   have := (ha g hg).2 a hag
   unfold okA at this
   simp only [Bool.and_eq_true, decide_eq_true_eq, List.all_eq_true] at this
   exact ⟨this.1.1, this.1.2, this.2⟩
 refine ⟨h1, fun g hg => (ha g hg).1, hz, by rw [num_all]; exact hz, fun g hg a hag => ⟨?_, fun x hx => ?_⟩, hb⟩
 · obtain ⟨k, hk, rfl⟩ := List.getElem_of_mem hg
   obtain ⟨j, hj, rfl⟩ := List.getElem_of_mem hag
   have t1 : _ + numG l[k] ≤ numZ l := sum_atG (f := numG) (List.getElem?_eq_getElem hk)
   have t2 : _ + _ ≤ numG l[k] := sum_atG (f := fun a : Ac => a.items.length) (List.getElem?_eq_getElem hj)
   omega
 · exact few_cpI ((((hf g hg).2.2 a hag).2.2.2) x hx) ((hb g hg a hag).2.2 x hx)
def deeds (l : List Gz) : List Ei := deedR (actsR (allA l))
theorem actsK_num (row : List Ac) : ∀ k, ((actsK row k).map fun a => a.items.length).sum ≤ ((row.take k).map fun a => a.items.length).sum
 | 0 => by simp [actsK]
 | k + 1 => by
   have ih := actsK_num row k
   rw [actsK]
   split
   · rename_i a ha
     rw [sum_stepG (f := fun a : Ac => a.items.length) ha]
     split
     · have := ((insA_perm a (actsK row k)).map fun a => a.items.length).sum_nat
       rw [this, List.map_cons, List.sum_cons]
       omega
     · omega
   · have := sum_takeG (fun a : Ac => a.items.length) row (k + 1)
     rename_i hn
     rw [List.take_of_length_le (by rw [List.getElem?_eq_none_iff] at hn; omega)] at ih ⊢
     exact ih
theorem Few30.deedsLe {l : List Gz} {m : Nat} (h : Few30 l m) : ((actsR (allA l)).map fun a => a.items.length).sum ≤ m := by
 have h1 := actsK_num (allA l) (allA l).length
 rw [List.take_length] at h1
 exact Nat.le_trans h1 h.num
theorem Few30.deedsLen {l : List Gz} {m : Nat} (h : Few30 l m) : (deeds l).length ≤ m := by
 unfold deeds deedR
 rw [deedL_len]
 exact h.deedsLe
theorem Few30.small {l : List Gz} {m : Nat} (h : Few30 l m) : ∀ g ∈ l, SmG g := fun g hg => ⟨by have := h.acts g hg; omega, fun a ha => (h.fit g hg a ha).1⟩
theorem Few30.cp {l : List Gz} {m : Nat} (h : Few30 l m) : ∀ e ∈ deeds l, CpI e.it := by
 have hg := good_reg h.fit
 intro e he
 unfold deeds at he
 rw [← items_reg] at he
 have he := (sortE_perm _).subset he
 unfold flatR flatA at he
 obtain ⟨p, hp, he⟩ := List.mem_flatMap.1 he
 obtain ⟨k, x, hx, rfl⟩ := eiA_mem he
 exact (corA_fit hg (hg.ok p hp)).2 x (List.mem_of_getElem? hx)
theorem Few30.items {l : List Gz} {m : Nat} (hm : m ≤ 1000) (h : Few30 l m) : PC Try.prog env0 12 [.sl 4 (l.map gzv)] [.sl 28 ((deeds l).map eiv)] := by
 have hl := h.len
 have hd := h.deedsLe
 have := items_of l (by omega) h.small h.fit (by rw [num_reg]; omega)
 rwa [items_reg] at this
theorem Few30.deeds {l : List Gz} {m : Nat} (hm : m ≤ 1000) (h : Few30 l m) : PC Try.prog env0 13 [.sl 4 (l.map gzv)] [.sl 28 ((deeds l).map eiv)] := by
 have hl := h.len
 have hd := h.deedsLe
 exact deeds_pc l (by omega) (fun g hg => by have := h.acts g hg; omega) (by omega)
end Go.Proofs.Ytglkpmhamekpmaa.Po
