/-
  Corpus: what holds of every register (of no program but for the names).
-/
import Derived.Test.YtglkpmhamekpmaaWCj
namespace Go.Proofs.Ytglkpmhamekpmaa.Po
open Go Go.Pv Go.RowKit
set_option linter.unusedSimpArgs false
open Lab Lcs Go.Proofs.Ytglkpmhamekpmaa Go.Proofs.Ytglkpmhamekpmaa.Pu
open Go.Sort (SWO)
open Go.Proofs (ltOf)
theorem eisL_mem {n d : Int} : ∀ {l : List It} {i : Nat} {e : Ei}, e ∈ eisL n d i l → e.act = n ∧ e.day = d ∧ (i : Int) ≤ e.item ∧ e.item < i + l.length ∧ ∃ k x, l[k]? = some x ∧ e = ⟨n, ((i + k : Nat) : Int), d, x⟩
 | [], _, _, h => by cases h
 | y :: l, i, e, h => by
   rw [eisL] at h
   rcases List.mem_cons.1 h with rfl | h
   · exact ⟨rfl, rfl, Int.le_refl _, by simp; omega, 0, y, rfl, by simp⟩
   · obtain ⟨h1, h2, h3, h4, k, x, h5, h6⟩ := eisL_mem h
     exact ⟨h1, h2, by omega, by rw [List.length_cons]; omega, k + 1, x, by simpa using h5, by rw [h6]; congr 2; omega⟩
theorem eiA_mem {a : Ac} {e : Ei} (h : e ∈ eiA a) : ∃ (k : Nat) (x : It), a.items[k]? = some x ∧ e = ⟨a.num, (k : Int), a.day, x⟩ := by
 obtain ⟨_, _, _, _, k, x, h5, h6⟩ := eisL_mem h
 exact ⟨k, x, h5, by rw [h6]; congr 2; omega⟩
theorem eisL_at {n d : Int} : ∀ {l : List It} {k i : Nat} {x : It}, l[k]? = some x → (⟨n, ((i + k : Nat) : Int), d, x⟩ : Ei) ∈ eisL n d i l
 | [], _, _, _, h => by simp at h
 | y :: l, 0, i, x, h => by
   obtain rfl : y = x := by simpa using h
   rw [eisL, Nat.add_zero]
   exact List.mem_cons_self
 | y :: l, k + 1, i, x, h => by
   rw [eisL]
   have := eisL_at (n := n) (d := d) (i := i + 1) (l := l) (k := k) (x := x) (by simpa using h)
   rw [show i + (k + 1) = i + 1 + k by omega]
   exact List.mem_cons_of_mem _ this
theorem eiA_at {a : Ac} {k : Nat} {x : It} (h : a.items[k]? = some x) : (⟨a.num, (k : Int), a.day, x⟩ : Ei) ∈ eiA a := by
 have := eisL_at (n := a.num) (d := a.day) (i := 0) h
 rwa [Nat.zero_add] at this
theorem eiA_uniq {a : Ac} {x y : Ei} (hx : x ∈ eiA a) (hy : y ∈ eiA a) (h : x.item = y.item) : x = y := by
 obtain ⟨k, u, h1, rfl⟩ := eiA_mem hx
 obtain ⟨j, v, h2, rfl⟩ := eiA_mem hy
 simp only at h
 obtain rfl : k = j := by omega
 rw [h1] at h2
 injection h2 with h2
 rw [h2]
structure GoodR (Q : Ac → Prop) (r : Rg) : Prop where
 key : ∀ p ∈ r.acts, p.1 = p.2.num
 nodup : (r.acts.map Prod.fst).Nodup
 ok : ∀ p ∈ r.acts, Q p.2
 cor : ∀ n i e, lookL r.cors (n, i) = some e → isC e.it = true ∧ refE e = (n, i) ∧ ∃ a, Q a ∧ e ∈ eiA a
theorem cor_addC {Q : Ac → Prop} {m : CorM} {d : Ei} (h : ∀ n i e, lookL m (n, i) = some e → isC e.it = true ∧ refE e = (n, i) ∧ ∃ a, Q a ∧ e ∈ eiA a) (hd : isC d.it = true) (hq : ∃ a, Q a ∧ d ∈ eiA a) : ∀ n i e, lookL (addC m d) (n, i) = some e → isC e.it = true ∧ refE e = (n, i) ∧ ∃ a, Q a ∧ e ∈ eiA a := by
 intro n i e he
 have hput : ∀ e, lookL (putL m (refE d) d) (n, i) = some e → isC e.it = true ∧ refE e = (n, i) ∧ ∃ a, Q a ∧ e ∈ eiA a := fun e he => by
   rw [lookL_put] at he
   split at he
   · rename_i hr
     injection he with he
     rw [← he]
     exact ⟨hd, hr, hq⟩
   · exact h n i e he
 unfold addC at he
 split at he
 · exact hput e he
 · split at he
   · exact hput e he
   · exact h n i e he
theorem cor_fold {Q : Ac → Prop} {a : Ac} (hq : Q a) : ∀ (l : List Ei) (m : CorM), (∀ e ∈ l, e ∈ eiA a) → (∀ n i e, lookL m (n, i) = some e → isC e.it = true ∧ refE e = (n, i) ∧ ∃ a, Q a ∧ e ∈ eiA a) → ∀ n i e, lookL (l.foldl addI m) (n, i) = some e → isC e.it = true ∧ refE e = (n, i) ∧ ∃ a, Q a ∧ e ∈ eiA a
 | [], m, _, h => h
 | d :: l, m, hl, h => by
   rw [List.foldl_cons]
   refine cor_fold hq l _ (fun e he => hl e (List.mem_cons_of_mem _ he)) ?_
   unfold addI
   split
   · rename_i hd
     exact cor_addC h hd ⟨a, hq, hl d List.mem_cons_self⟩
   · exact h
theorem good_add {Q : Ac → Prop} {r : Rg} {a : Ac} (h : GoodR Q r) (hq : Q a) : GoodR Q (addA r a) := by
 unfold addA
 cases hl : lookL r.acts a.num with
 | some b => exact ⟨h.key, h.nodup, h.ok, h.cor⟩
 | none =>
   dsimp only
   rw [putL_new hl]
   refine ⟨fun p hp => ?_, ?_, fun p hp => ?_, cor_fold hq (eiA a) r.cors (fun e he => he) h.cor⟩
   · rcases List.mem_append.1 hp with hp | hp
     · exact h.key p hp
     · obtain rfl := List.mem_singleton.1 hp; rfl
   · rw [List.map_append, List.nodup_append]
     refine ⟨h.nodup, by simp, ?_⟩
     intro x hx y hy
     simp only [List.map_cons, List.map_nil, List.mem_singleton] at hy
     subst hy
     intro e
     rw [e] at hx
     exact (lookL_none.1 hl) hx
   · rcases List.mem_append.1 hp with hp | hp
     · exact h.ok p hp
     · obtain rfl := List.mem_singleton.1 hp; exact hq
theorem good_nil {Q : Ac → Prop} : GoodR Q ⟨[], [], []⟩ := ⟨fun _ h => (by cases h), List.nodup_nil, fun _ h => (by cases h), fun _ _ _ h => (by cases h)⟩
theorem good_acts {Q : Ac → Prop} : ∀ (l : List Ac) (r : Rg), (∀ a ∈ l, Q a) → GoodR Q r → GoodR Q (l.foldl addA r)
 | [], _, _, h => h
 | a :: l, _, hl, h => good_acts l _ (fun b hb => hl b (List.mem_cons_of_mem _ hb)) (good_add h (hl a List.mem_cons_self))
theorem good_all {Q : Ac → Prop} : ∀ (l : List Gz) (r : Rg), (∀ g ∈ l, ∀ a ∈ g.acts, Q a) → GoodR Q r → GoodR Q (l.foldl addG r)
 | [], _, _, h => h
 | g :: l, r, hl, h => good_all l _ (fun b hb => hl b (List.mem_cons_of_mem _ hb)) (good_acts g.acts r (hl g List.mem_cons_self) h)
theorem good_reg {Q : Ac → Prop} {l : List Gz} (hl : ∀ g ∈ l, ∀ a ∈ g.acts, Q a) : GoodR Q (regO l) := good_all l _ hl good_nil
theorem isC_by {x : It} (h : isC x = true) : ∃ y q, x.bys = y :: q := by
 unfold isC at h
 cases hb : x.bys with
 | nil => rw [hb] at h; simp at h
 | cons y r => exact ⟨y, r, rfl⟩
theorem GoodR.okc {Q : Ac → Prop} {r : Rg} (h : GoodR Q r) : OkC' r.cors := fun n i e he => isC_by (h.cor n i e he).1
def flatA (m : CorM) (l : AcM) : List Ei := l.flatMap fun p => eiA (corA m p.2)
def flatR (r : Rg) : List Ei := flatA r.cors r.acts
theorem nodup_fst {κ ν : Type} {p q : κ × ν} : ∀ {l : List (κ × ν)}, (l.map Prod.fst).Nodup → p ∈ l → q ∈ l → p.1 = q.1 → p = q
 | [], _, h, _, _ => by cases h
 | x :: l, hn, hp, hq, e => by
   rw [List.map_cons, List.nodup_cons] at hn
   rcases List.mem_cons.1 hp with h1 | hp
   · rcases List.mem_cons.1 hq with h2 | hq
     · rw [h1, h2]
     · exact absurd (show x.1 ∈ l.map Prod.fst by rw [← h1, e]; exact List.mem_map_of_mem hq) hn.1
   · rcases List.mem_cons.1 hq with h2 | hq
     · exact absurd (show x.1 ∈ l.map Prod.fst by rw [← h2, ← e]; exact List.mem_map_of_mem hp) hn.1
     · exact nodup_fst hn.2 hp hq e
theorem flat_uniq {m : CorM} : ∀ {l : AcM}, (∀ p ∈ l, p.1 = p.2.num) → (l.map Prod.fst).Nodup → ∀ x ∈ flatA m l, ∀ y ∈ flatA m l, sameP x y → x = y := by
 intro l hk hn x hx y hy hs
 unfold flatA at hx hy
 obtain ⟨p, hp, hx⟩ := List.mem_flatMap.1 hx
 obtain ⟨q, hq, hy⟩ := List.mem_flatMap.1 hy
 have hx0 := hx
 have hy0 := hy
 obtain ⟨k, u, h1, rfl⟩ := eiA_mem hx
 obtain ⟨j, v, h2, rfl⟩ := eiA_mem hy
 obtain ⟨s1, s2, s3⟩ := hs
 simp only [corA] at s2
 have hpq : p = q := by
   have e : p.1 = q.1 := by rw [hk p hp, hk q hq]; exact s2
   exact nodup_fst hn hp hq e
 subst hpq
 exact eiA_uniq hx0 hy0 s3
theorem deeds_uniq {Q : Ac → Prop} {r : Rg} (h : GoodR Q r) : ∀ x ∈ flatR r, ∀ y ∈ flatR r, sameP x y → x = y := flat_uniq h.key h.nodup
end Go.Proofs.Ytglkpmhamekpmaa.Po
