/-
  Corpus: the program's enacted items are the reference's (of no program but for the names).
-/
import Derived.Test.YtglkpmhamekpmaaWCq
namespace Go.Proofs.Ytglkpmhamekpmaa.Po
open Go Go.Pv Go.RowKit
set_option linter.unusedSimpArgs false
open Lab Lcs Go.Proofs.Ytglkpmhamekpmaa Go.Proofs.Ytglkpmhamekpmaa.Pu
open Go.Proofs (ltOf)
theorem regO_all (l : List Gz) : regO l = (allA l).foldl addA ⟨[], [], []⟩ := by
 unfold regO allA
 have : ∀ (l : List Gz) (r : Rg), l.foldl addG r = (l.flatMap Gz.acts).foldl addA r := by
   intro l
   induction l with
   | nil => intro r; rfl
   | cons g l ih => intro r; rw [List.foldl_cons, ih, List.flatMap_cons, List.foldl_append]; rfl
 exact this l _
def rgK (row : List Ac) (k : Nat) : Rg := (row.take k).foldl addA ⟨[], [], []⟩
theorem rgK_step {row : List Ac} {k : Nat} {a : Ac} (h : row[k]? = some a) : rgK row (k + 1) = addA (rgK row k) a := addA_take h _
theorem rgK_good (row : List Ac) (k : Nat) : GoodR (fun a => a ∈ row) (rgK row k) := good_acts (row.take k) _ (fun _ ha => List.take_subset _ _ ha) good_nil
theorem rgK_none (row : List Ac) : ∀ k, k ≤ row.length → ∀ n, (lookL (rgK row k).acts n = none ↔ ∀ a ∈ row.take k, a.num ≠ n)
 | 0, _, n => by simp [rgK, lookL]
 | k + 1, hk, n => by
   obtain ⟨a, ha⟩ : ∃ a, row[k]? = some a := ⟨row[k], List.getElem?_eq_getElem (by omega)⟩
   have ih := rgK_none row k (by omega) n
   rw [rgK_step ha, take_at ha]
   unfold addA
   cases hl : lookL (rgK row k).acts a.num with
   | some b =>
     dsimp only
     rw [ih]
     constructor
     · intro h x hx
       rcases List.mem_append.1 hx with hx | hx
       · exact h x hx
       · obtain rfl := List.mem_singleton.1 hx
         intro e
         rw [e, ih.2 h] at hl
         cases hl
     · intro h x hx
       exact h x (List.mem_append_left _ hx)
   | none =>
     dsimp only
     rw [lookL_put]
     constructor
     · intro h x hx
       split at h
       · cases h
       · rename_i hne
         rcases List.mem_append.1 hx with hx | hx
         · exact ih.1 h x hx
         · obtain rfl := List.mem_singleton.1 hx; exact hne
     · intro h
       rw [if_neg (h a (by simp))]
       exact ih.2 fun x hx => h x (List.mem_append_left _ hx)
theorem isF_iff {row : List Ac} {k : Nat} {a : Ac} (h : row[k]? = some a) : isF row k a = true ↔ ∀ b ∈ row.take k, b.num ≠ a.num := by
 have hk := (List.getElem?_eq_some_iff.1 h).1
 have hak := (List.getElem?_eq_some_iff.1 h).2
 unfold isF fstI
 rw [decide_eq_true_iff]
 constructor
 · intro e
   split at e
   · rename_i i hi
     rw [List.findIdx?_eq_some_iff_getElem] at hi
     obtain ⟨_, _, h3⟩ := hi
     intro b hb
     obtain ⟨j, hj, rfl⟩ := List.mem_take_iff_getElem.1 hb
     have := h3 j (by omega)
     simpa using this
   · omega
 · intro hb
   have : row.findIdx? (fun b => decide (b.num = a.num)) = some k := by
     rw [List.findIdx?_eq_some_iff_getElem]
     refine ⟨hk, by simp [hak], fun j hj => ?_⟩
     have := hb row[j] (List.mem_take_iff_getElem.2 ⟨j, by omega, rfl⟩)
     simpa using this
   rw [this]
theorem insA_perm (a : Ac) (out : List Ac) : (insA a out).Perm (a :: out) := by
 unfold insA
 have h := List.takeWhile_append_dropWhile (p := fun b => aheadB b a) (l := out)
 refine List.perm_middle.trans ?_
 rw [h]
theorem actsK_perm (row : List Ac) : ∀ k, k ≤ row.length → (actsK row k).Perm ((rgK row k).acts.map Prod.snd)
 | 0, _ => by simp [actsK, rgK]
 | k + 1, hk => by
   obtain ⟨a, ha⟩ : ∃ a, row[k]? = some a := ⟨row[k], List.getElem?_eq_getElem (by omega)⟩
   have ih := actsK_perm row k (by omega)
   have hn := rgK_none row k (by omega) a.num
   rw [rgK_step ha, actsK, ha]
   dsimp only
   by_cases hF : isF row k a = true
   · rw [if_pos hF]
     have h0 := hn.2 ((isF_iff ha).1 hF)
     unfold addA
     rw [h0]
     dsimp only
     rw [putL_new h0, List.map_append]
     refine (insA_perm a _).trans ((ih.cons a).trans ?_)
     exact (List.perm_append_comm (l₁ := [a])).trans (List.Perm.refl _)
   · rw [if_neg hF]
     have h0 : lookL (rgK row k).acts a.num ≠ none := fun e => hF ((isF_iff ha).2 (hn.1 e))
     unfold addA
     cases hl : lookL (rgK row k).acts a.num with
     | none => exact absurd hl h0
     | some b => exact ih
def ltA (a b : Ac) : Prop := a.day < b.day ∨ (a.day = b.day ∧ a.num < b.num)
theorem ahead_iff {a b : Ac} : aheadB a b = true ↔ ltA a b := by unfold aheadB ltA; exact decide_eq_true_iff
theorem insA_sorted {a : Ac} : ∀ {out : List Ac}, out.Pairwise ltA → (∀ b ∈ out, b.num ≠ a.num) → (insA a out).Pairwise ltA
 | [], _, _ => by simp [insA]
 | b :: out, hs, hn => by
   rw [List.pairwise_cons] at hs
   have hba := hn b List.mem_cons_self
   unfold insA
   by_cases hb : aheadB b a = true
   · simp only [List.takeWhile_cons, hb, if_true, List.dropWhile_cons, List.cons_append]
     have ih := insA_sorted (a := a) hs.2 fun x hx => hn x (List.mem_cons_of_mem _ hx)
     rw [List.pairwise_cons]
     refine ⟨fun x hx => ?_, ih⟩
     rcases List.mem_cons.1 ((insA_perm a out).subset hx) with rfl | hx
     · exact ahead_iff.1 hb
     · exact hs.1 x hx
   · simp only [List.takeWhile_cons, hb, if_false, List.dropWhile_cons, List.nil_append, Bool.false_eq_true]
     rw [List.pairwise_cons, List.pairwise_cons]
     have hlt : ltA a b := by
       rw [ahead_iff] at hb
       unfold ltA at *
       omega
     refine ⟨fun x hx => ?_, hs⟩
     rcases List.mem_cons.1 hx with rfl | hx
     · exact hlt
     · have := hs.1 x hx
       unfold ltA at *
       omega
theorem actsK_sorted (row : List Ac) : ∀ k, k ≤ row.length → (actsK row k).Pairwise ltA
 | 0, _ => by simp [actsK]
 | k + 1, hk => by
   obtain ⟨a, ha⟩ : ∃ a, row[k]? = some a := ⟨row[k], List.getElem?_eq_getElem (by omega)⟩
   have ih := actsK_sorted row k (by omega)
   rw [actsK, ha]
   dsimp only
   split
   · rename_i hF
     refine insA_sorted ih fun b hb => ?_
     have hb' := (actsK_perm row k (by omega)).subset hb
     obtain ⟨p, hp, rfl⟩ := List.mem_map.1 hb'
     have hg := rgK_good row k
     intro e
     have h0 := (rgK_none row k (by omega) a.num).2 ((isF_iff ha).1 hF)
     rw [lookL_none] at h0
     exact h0 (by rw [← e, ← hg.key p hp]; exact List.mem_map_of_mem hp)
   · exact ih
def Best (S : Ei → Prop) (n i : Int) : Option Ei → Prop
 | none => ∀ d, S d → isC d.it = true → refE d = (n, i) → False
 | some e => S e ∧ isC e.it = true ∧ refE e = (n, i) ∧ ∀ d, S d → isC d.it = true → refE d = (n, i) → ltOf legE e d = false
theorem Best.uniq {S : Ei → Prop} (hd : ∀ x y, S x → S y → sameP x y → x = y) {n i : Int} : ∀ {o o' : Option Ei}, Best S n i o → Best S n i o' → o = o'
 | none, none, _, _ => rfl
 | none, some e, h, h' => absurd (h e h'.1 h'.2.1 h'.2.2.1) id
 | some e, none, h, h' => absurd (h' e h.1 h.2.1 h.2.2.1) id
 | some e, some e', h, h' => by
   have h1 := h.2.2.2 e' h'.1 h'.2.1 h'.2.2.1
   have h2 := h'.2.2.2 e h.1 h.2.1 h.2.2.1
   rw [ltE_no] at h1 h2
   rw [hd e e' h.1 h'.1 (by unfold sameP; omega)]
theorem Best.congr {S S' : Ei → Prop} (h : ∀ x, S x ↔ S' x) {n i : Int} {o : Option Ei} (hb : Best S n i o) : Best S' n i o := by
 cases o with
 | none => exact fun d hd => hb d ((h d).2 hd)
 | some e => exact ⟨(h e).1 hb.1, hb.2.1, hb.2.2.1, fun d hd => hb.2.2.2 d ((h d).2 hd)⟩
theorem legE_flip {a b : Ei} : 0 < legE a b ↔ ltOf legE b a = true := by
 rw [ltE_iff]
 have h1 := @cmpZ_lt a.day b.day
 have h2 := @cmpZ_zero a.day b.day
 have h3 := @cmpZ_lt a.act b.act
 have h4 := @cmpZ_zero a.act b.act
 have h5 := @cmpZ_lt a.item b.item
 have h6 := @cmpZ_zero a.item b.item
 unfold legE
 split
 · omega
 · split
   · omega
   · omega
def Holds (S : Ei → Prop) (m : CorM) : Prop := ∀ n i, Best S n i (lookL m (n, i))
theorem holds_addI {S : Ei → Prop} {m : CorM} {d : Ei} (h : Holds S m) : Holds (fun x => S x ∨ x = d) (addI m d) := by
 intro n i
 have hni := h n i
 unfold addI
 split
 · rename_i hd
   unfold addC
   have hput : (∀ e, lookL m (refE d) = some e → ltOf legE e d = true) → Best (fun x => S x ∨ x = d) n i (lookL (putL m (refE d) d) (n, i)) := fun hlt => by
     rw [lookL_put]
     by_cases hr : refE d = (n, i)
     · rw [if_pos hr]
       refine ⟨Or.inr rfl, hd, hr, fun x hx hc hrx => ?_⟩
       rcases hx with hx | rfl
       · rw [hr] at hlt
         cases hl : lookL m (n, i) with
         | none => rw [hl] at hni; exact (hni x hx hc hrx).elim
         | some e =>
           rw [hl] at hni
           have h1 := hni.2.2.2 x hx hc hrx
           have h2 := hlt e hl
           rw [ltE_no] at h1 ⊢
           rw [ltE_iff] at h2
           omega
       · exact swoE.irrefl x
     · rw [if_neg hr]
       cases hl : lookL m (n, i) with
       | none =>
         rw [hl] at hni
         intro x hx hc hrx
         rcases hx with hx | rfl
         · exact hni x hx hc hrx
         · exact hr hrx
       | some e =>
         rw [hl] at hni
         refine ⟨Or.inl hni.1, hni.2.1, hni.2.2.1, fun x hx hc hrx => ?_⟩
         rcases hx with hx | rfl
         · exact hni.2.2.2 x hx hc hrx
         · exact absurd hrx hr
   split
   · rename_i hl
     exact hput fun e he => by rw [hl] at he; cases he
   · rename_i e hl
     split
     · rename_i hg
       exact hput fun e' he => by
         rw [hl] at he
         injection he with he
         rw [← he]
         exact legE_flip.1 hg
     · rename_i hg
       cases hl2 : lookL m (n, i) with
       | none =>
         rw [hl2] at hni
         intro x hx hc hrx
         rcases hx with hx | rfl
         · exact hni x hx hc hrx
         · rw [← hrx, hl] at hl2; cases hl2
       | some e2 =>
         rw [hl2] at hni
         refine ⟨Or.inl hni.1, hni.2.1, hni.2.2.1, fun x hx hc hrx => ?_⟩
         rcases hx with hx | rfl
         · exact hni.2.2.2 x hx hc hrx
         · rw [← hrx, hl] at hl2
           injection hl2 with hl2
           rw [← hl2]
           rw [legE_flip] at hg
           simpa using hg
 · rename_i hd
   cases hl : lookL m (n, i) with
   | none =>
     rw [hl] at hni
     intro x hx hc hrx
     rcases hx with hx | rfl
     · exact hni x hx hc hrx
     · exact hd hc
   | some e =>
     rw [hl] at hni
     refine ⟨Or.inl hni.1, hni.2.1, hni.2.2.1, fun x hx hc hrx => ?_⟩
     rcases hx with hx | rfl
     · exact hni.2.2.2 x hx hc hrx
     · exact absurd hc hd
theorem Holds.congr {S S' : Ei → Prop} (h : ∀ x, S x ↔ S' x) {m : CorM} (hm : Holds S m) : Holds S' m := fun n i => (hm n i).congr h
theorem holds_fold : ∀ (l : List Ei) {S : Ei → Prop} {m : CorM}, Holds S m → Holds (fun x => S x ∨ x ∈ l) (l.foldl addI m)
 | [], S, m, h => h.congr fun x => by simp
 | d :: l, S, m, h => by
   rw [List.foldl_cons]
   refine (holds_fold l (holds_addI (d := d) h)).congr fun x => ?_
   rw [List.mem_cons, or_assoc]
theorem rgK_holds (row : List Ac) : ∀ k, k ≤ row.length → Holds (fun x => ∃ p ∈ (rgK row k).acts, x ∈ eiA p.2) (rgK row k).cors
 | 0, _ => fun n i => by
   show Best _ n i (lookL [] (n, i))
   intro d hd
   obtain ⟨p, hp, _⟩ := hd
   cases hp
 | k + 1, hk => by
   obtain ⟨a, ha⟩ : ∃ a, row[k]? = some a := ⟨row[k], List.getElem?_eq_getElem (by omega)⟩
   have ih := rgK_holds row k (by omega)
   rw [rgK_step ha]
   unfold addA
   cases hl : lookL (rgK row k).acts a.num with
   | some b => exact ih
   | none =>
     dsimp only
     rw [putL_new hl]
     refine (holds_fold (eiA a) ih).congr fun x => ?_
     constructor
     · rintro (⟨p, hp, hx⟩ | hx)
       · exact ⟨p, List.mem_append_left _ hp, hx⟩
       · exact ⟨(a.num, a), List.mem_append_right _ (by simp), hx⟩
     · rintro ⟨p, hp, hx⟩
       rcases List.mem_append.1 hp with hp | hp
       · exact Or.inl ⟨p, hp, hx⟩
       · obtain rfl := List.mem_singleton.1 hp; exact Or.inr hx
end Go.Proofs.Ytglkpmhamekpmaa.Po
