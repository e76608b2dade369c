/-
  Corpus: the last correction in legal order counts, by the program as by the reference (of no program but for the names).
-/
import Derived.Test.YtglkpmhamekpmaaWCr
namespace Go.Proofs.Ytglkpmhamekpmaa.Po
open Go Go.Pv Go.RowKit
set_option linter.unusedSimpArgs false
open Lab Lcs Go.Proofs.Ytglkpmhamekpmaa Go.Proofs.Ytglkpmhamekpmaa.Pu
open Go.Proofs (ltOf)
def lastC (n i : Int) : Option Ei → List Ei → Option Ei
 | o, [] => o
 | o, d :: l => lastC n i (if isC d.it = true ∧ refE d = (n, i) then some d else o) l
def getC (x : It) : Option Ei → It
 | none => x
 | some e => e.it.bys.headD e.it
theorem stepC_eq (n i : Int) (x : It) (o : Option Ei) (d : Ei) : stepC n i (getC x o) d.it = getC x (if isC d.it = true ∧ refE d = (n, i) then some d else o) := by
 unfold stepC refE
 by_cases h : isC d.it = true ∧ d.it.a = n ∧ d.it.i = i
 · rw [if_pos h, if_pos ⟨h.1, by rw [h.2.1, h.2.2]⟩]; rfl
 · rw [if_neg h, if_neg]
   rintro ⟨h1, h2⟩
   injection h2 with h2 h3
   exact h ⟨h1, h2, h3⟩
theorem lastC_app (n i : Int) : ∀ (a b : List Ei) (o : Option Ei), lastC n i o (a ++ b) = lastC n i (lastC n i o a) b
 | [], _, _ => rfl
 | d :: a, b, o => by
   rw [List.cons_append, lastC, lastC, lastC_app n i a b]
theorem rowC_last (n i : Int) (x : It) (m d : Int) : ∀ (l : List It) (k : Nat) (o : Option Ei), rowC n i (getC x o) l = getC x (lastC n i o (eisL m d k l))
 | [], _, _ => rfl
 | y :: l, k, o => by
   rw [eisL, lastC, ← rowC_last n i x m d l (k + 1)]
   unfold rowC
   rw [List.foldl_cons]
   congr 1
   exact stepC_eq n i x o ⟨m, (k : Nat), d, y⟩
theorem actC_last (n i : Int) (x : It) : ∀ (l : List Ac) (o : Option Ei), actC n i (getC x o) l = getC x (lastC n i o (l.flatMap eiA))
 | [], _ => rfl
 | a :: l, o => by
   rw [List.flatMap_cons, lastC_app, ← actC_last n i x l]
   unfold actC
   rw [List.foldl_cons]
   congr 1
   exact rowC_last n i x a.num a.day a.items 0 o
theorem lastC_best {n i : Int} : ∀ (l : List Ei) {S : Ei → Prop} {o : Option Ei}, Best S n i o → (∀ x, S x → ∀ y ∈ l, ltOf legE y x = false) → l.Pairwise (fun a b => ltOf legE b a = false) → Best (fun x => S x ∨ x ∈ l) n i (lastC n i o l)
 | [], S, o, h, _, _ => h.congr fun x => by simp
 | d :: l, S, o, h, hS, hs => by
   rw [List.pairwise_cons] at hs
   rw [lastC]
   have hb : Best (fun x => S x ∨ x = d) n i (if isC d.it = true ∧ refE d = (n, i) then some d else o) := by
     by_cases hc : isC d.it = true ∧ refE d = (n, i)
     · rw [if_pos hc]
       refine ⟨Or.inr rfl, hc.1, hc.2, fun x hx _ _ => ?_⟩
       rcases hx with hx | rfl
       · exact hS x hx d List.mem_cons_self
       · exact swoE.irrefl x
     · rw [if_neg hc]
       cases o with
       | none =>
         intro x hx h1 h2
         rcases hx with hx | rfl
         · exact h x hx h1 h2
         · exact hc ⟨h1, h2⟩
       | some e =>
         refine ⟨Or.inl h.1, h.2.1, h.2.2.1, fun x hx h1 h2 => ?_⟩
         rcases hx with hx | rfl
         · exact h.2.2.2 x hx h1 h2
         · exact absurd ⟨h1, h2⟩ hc
   refine (lastC_best l hb (fun x hx y hy => ?_) hs.2).congr fun x => by rw [List.mem_cons, or_assoc]
   rcases hx with hx | rfl
   · exact hS x hx y (List.mem_cons_of_mem _ hy)
   · exact hs.1 y hy
theorem eis_sorted {n d : Int} : ∀ (l : List It) (k : Nat), (eisL n d k l).Pairwise fun a b => ltOf legE b a = false
 | [], _ => List.Pairwise.nil
 | x :: l, k => by
   rw [eisL, List.pairwise_cons]
   refine ⟨fun e he => ?_, eis_sorted l (k + 1)⟩
   obtain ⟨h1, h2, h3, _⟩ := eisL_mem he
   rw [ltE_no]
   simp only
   omega
theorem flat_sorted : ∀ {l : List Ac}, l.Pairwise ltA → ∀ (g : Ac → List Ei), (∀ a, (g a).Pairwise fun a b => ltOf legE b a = false) → (∀ a, ∀ e ∈ g a, e.act = a.num ∧ e.day = a.day) → (l.flatMap g).Pairwise fun a b => ltOf legE b a = false
 | [], _, _, _, _ => List.Pairwise.nil
 | a :: l, hs, g, hg, hk => by
   rw [List.pairwise_cons] at hs
   rw [List.flatMap_cons, List.pairwise_append]
   refine ⟨hg a, flat_sorted hs.2 g hg hk, fun x hx y hy => ?_⟩
   obtain ⟨b, hb, hy⟩ := List.mem_flatMap.1 hy
   have h1 := hs.1 b hb
   have h2 := hk a x hx
   have h3 := hk b y hy
   unfold ltA at h1
   rw [ltE_no]
   omega
theorem deedF_eis (f : Int → Int → It → It) (n d : Int) : ∀ (l : List It) (k : Nat) (e : Ei), e ∈ deedF f n d k l → e.act = n ∧ e.day = d ∧ (k : Int) ≤ e.item
 | [], _, _, h => by cases h
 | x :: l, k, e, h => by
   rw [deedF] at h
   rcases List.mem_cons.1 h with rfl | h
   · exact ⟨rfl, rfl, Int.le_refl _⟩
   · obtain ⟨h1, h2, h3⟩ := deedF_eis f n d l (k + 1) e h
     exact ⟨h1, h2, by omega⟩
theorem deedF_sorted (f : Int → Int → It → It) {n d : Int} : ∀ (l : List It) (k : Nat), (deedF f n d k l).Pairwise fun a b => ltOf legE b a = false
 | [], _ => List.Pairwise.nil
 | x :: l, k => by
   rw [deedF, List.pairwise_cons]
   refine ⟨fun e he => ?_, deedF_sorted f l (k + 1)⟩
   obtain ⟨h1, h2, h3⟩ := deedF_eis f n d l (k + 1) e he
   rw [ltE_no]
   simp only
   omega
theorem cor_eq (row : List Ac) (n i : Int) (x : It) : corF (rgK row row.length).cors n i x = corR (actsR row) n i x := by
 have hg := rgK_good row row.length
 have hp := actsK_perm row row.length (Nat.le_refl _)
 have hs := actsK_sorted row row.length (Nat.le_refl _)
 have hh := rgK_holds row row.length (Nat.le_refl _) n i
 have hfs := flat_sorted hs eiA (fun a => eis_sorted a.items 0) (fun a e he => by
   obtain ⟨k, y, _, rfl⟩ := eiA_mem he
   exact ⟨rfl, rfl⟩)
 have hl := lastC_best (n := n) (i := i) ((actsK row row.length).flatMap eiA) (S := fun _ => False) (o := none) (fun _ h => h.elim) (fun _ h => h.elim) hfs
 have hl2 : Best (fun x => ∃ p ∈ (rgK row row.length).acts, x ∈ eiA p.2) n i (lastC n i none ((actsK row row.length).flatMap eiA)) := hl.congr fun x => by
   simp only [false_or, List.mem_flatMap]
   constructor
   · rintro ⟨a, ha, hx⟩
     obtain ⟨p, hp', rfl⟩ := List.mem_map.1 (hp.subset ha)
     exact ⟨p, hp', hx⟩
   · rintro ⟨p, hp', hx⟩
     exact ⟨p.2, hp.symm.subset (List.mem_map_of_mem hp'), hx⟩
 have he := Best.uniq (fun x y hx hy hxy => by
   obtain ⟨p, hp1, hx⟩ := hx
   obtain ⟨q, hq1, hy⟩ := hy
   have hx0 := hx
   have hy0 := hy
   obtain ⟨k, u, h1, rfl⟩ := eiA_mem hx
   obtain ⟨j, v, h2, rfl⟩ := eiA_mem hy
   obtain ⟨s1, s2, s3⟩ := hxy
   have hpq : p = q := nodup_fst hg.nodup hp1 hq1 (by rw [hg.key p hp1, hg.key q hq1]; exact s2)
   subst hpq
   exact eiA_uniq hx0 hy0 s3) hh hl2
 have ha := actC_last n i x (actsR row) none
 unfold corF corR
 cases hc : chB x.kind with
 | false =>
   cases lookL (rgK row row.length).cors (n, i) <;> simp
 | true =>
   rw [if_pos rfl, show x = getC x none from rfl, ha, show (actsR row).flatMap eiA = (actsK row row.length).flatMap eiA from rfl, ← he]
   cases hlk : lookL (rgK row row.length).cors (n, i) with
   | none => rfl
   | some e =>
     obtain ⟨y, q, hy⟩ := hg.okc n i e hlk
     simp [getC, hy]
theorem corI_deed (m : CorM) (n d : Int) : ∀ (l : List It) (k : Nat), eisL n d k (corI m n k l) = deedF (corF m) n d k l
 | [], _ => rfl
 | x :: l, k => by rw [corI, eisL, deedF, corI_deed m n d l (k + 1)]
theorem flatA_deed (m : CorM) (l : AcM) : flatA m l = deedL (corF m) (l.map Prod.snd) := by
 unfold flatA deedL
 rw [List.flatMap_map]
 congr 1
 funext p
 exact corI_deed m p.2.num p.2.day p.2.items 0
theorem items_eq (row : List Ac) : sortE (flatR (rgK row row.length)) = deedR (actsR row) := by
 have hg := rgK_good row row.length
 have hp := actsK_perm row row.length (Nat.le_refl _)
 have hs := actsK_sorted row row.length (Nat.le_refl _)
 have hc : corF (rgK row row.length).cors = corR (actsR row) := by
   funext n i x
   exact cor_eq row n i x
 refine (sortE_uniq (l := flatR (rgK row row.length)) ?_ (deeds_uniq hg) ?_).symm
 · unfold flatR deedR
   rw [flatA_deed, hc]
   unfold deedL
   exact List.Perm.flatMap_right _ hp
 · exact flat_sorted hs _ (fun a => deedF_sorted _ a.items 0) (fun a e he => by
     obtain ⟨h1, h2, _⟩ := deedF_eis _ _ _ _ _ e he
     exact ⟨h1, h2⟩)
theorem items_reg (l : List Gz) : sortE (flatR (regO l)) = deedR (actsR (allA l)) := by
 have h := items_eq (allA l)
 unfold rgK at h
 rw [List.take_length] at h
 rw [regO_all]
 exact h
theorem num_reg (l : List Gz) : numA (regO l).acts = ((actsR (allA l)).map fun a => a.items.length).sum := by
 have hp := actsK_perm (allA l) (allA l).length (Nat.le_refl _)
 unfold rgK at hp
 rw [List.take_length] at hp
 rw [regO_all]
 unfold numA actsR
 have := (hp.map fun a => a.items.length).sum_nat
 rw [List.map_map] at this
 exact this.symm
end Go.Proofs.Ytglkpmhamekpmaa.Po
