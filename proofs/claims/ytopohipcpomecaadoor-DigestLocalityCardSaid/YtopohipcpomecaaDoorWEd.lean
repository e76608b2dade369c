/-
  The mathematics of DigestLocality: a tree with one word more, the way to it. No program in it.
-/
import Derived.Test.YtopohipcpomecaaDoorWEc
namespace Go.Proofs.YtopohipcpomecaaDoor.Pd
open Go Go.Pv Go.RowKit Go.Proofs.YtopohipcpomecaaDoor.Pu Go.Proofs.YtopohipcpomecaaDoor.Pb
set_option linter.unusedSimpArgs false
open Lab Lcs Go.Proofs.YtopohipcpomecaaDoor
def moreW : Wd := ⟨⟨#[109, 111, 114, 101]⟩, ⟨0, 0, 0⟩⟩
mutual
def turn : Ut → Nat → Ut × Option Nat
 | .mk id kind label head words kids, 0 => (.mk id kind label head (words ++ [moreW]) kids, none)
 | .mk id kind label head words kids, a + 1 => (.mk id kind label head words (turnL kids (some a)).1, (turnL kids (some a)).2)
def turnL : List Ut → Option Nat → List Ut × Option Nat
 | [], s => ([], s)
 | k :: r, none => (k :: r, none)
 | k :: r, some a => ((turn k a).1 :: (turnL r (turn k a).2).1, (turnL r (turn k a).2).2)
end
mutual
def abv : Ut → Nat → List Trip
 | .mk id _ _ _ _ _, 0 => [id]
 | .mk id _ _ _ _ kids, a + 1 => abvL id kids a
def abvL (id : Trip) : List Ut → Nat → List Trip
 | [], _ => []
 | k :: r, a => if a < k.count then id :: abv k a else abvL id r (a - k.count)
end
theorem turnL_none : ∀ l : List Ut, turnL l none = (l, none)
 | [] => by rw [turnL]
 | _ :: _ => by rw [turnL]
mutual
theorem turn_far : ∀ (u : Ut) (a : Nat), u.count ≤ a → turn u a = (u, some (a - u.count))
 | .mk id kind label head words kids, 0, h => by rw [count_mk] at h; omega
 | .mk id kind label head words kids, a + 1, h => by
   rw [count_mk] at h
   rw [turn, turnL_far kids a (by omega), count_mk, show a + 1 - (1 + Ut.counts kids) = a - Ut.counts kids by omega]
theorem turnL_far : ∀ (l : List Ut) (a : Nat), Ut.counts l ≤ a → turnL l (some a) = (l, some (a - Ut.counts l))
 | [], a, _ => by rw [turnL]; simp [Ut.counts]
 | k :: r, a, h => by
   rw [Ut.counts] at h
   rw [turnL, turn_far k a (by omega)]
   dsimp only
   rw [turnL_far r (a - k.count) (by omega), Ut.counts, Nat.sub_sub]
end
mutual
theorem turn_near : ∀ (u : Ut) (a : Nat), a < u.count → (turn u a).2 = none
 | .mk id kind label head words kids, 0, _ => by rw [turn]
 | .mk id kind label head words kids, a + 1, h => by
   rw [count_mk] at h
   rw [turn]
   exact turnL_near kids a (by omega)
theorem turnL_near : ∀ (l : List Ut) (a : Nat), a < Ut.counts l → (turnL l (some a)).2 = none
 | [], a, h => by simp [Ut.counts] at h
 | k :: r, a, h => by
   rw [Ut.counts] at h
   rw [turnL]
   by_cases h1 : a < k.count
   · rw [turn_near k a h1, turnL_none]
   · rw [turn_far k a (by omega)]
     exact turnL_near r _ (by omega)
end
def relL (W : List Trip) : List Ut → List Ut → Prop
 | [], [] => True
 | x :: l, y :: m => y.id = x.id ∧ (x.id ∈ W ∨ y = x) ∧ relL W l m
 | _, _ => False
theorem relL_refl (W : List Trip) : ∀ l : List Ut, relL W l l
 | [] => trivial
 | _ :: l => ⟨rfl, Or.inr rfl, relL_refl W l⟩
theorem relL_app {W : List Trip} : ∀ {a b c d : List Ut}, relL W a b → relL W c d → relL W (a ++ c) (b ++ d)
 | [], [], _, _, _, h => h
 | _ :: _, _ :: _, _, _, h1, h2 => ⟨h1.1, h1.2.1, relL_app h1.2.2 h2⟩
theorem relL_first {W : List Trip} {t : Trip} (ht : ¬ t ∈ W) : ∀ {l m : List Ut}, relL W l m → firstU t l = firstU t m
 | [], [], _ => rfl
 | x :: l, y :: m, h => by
   rw [firstU, firstU, h.1]
   by_cases hx : x.id = t
   · rw [if_pos hx, if_pos hx]
     rcases h.2.1 with h2 | h2
     · rw [hx] at h2; exact absurd h2 ht
     · rw [h2]
   · rw [if_neg hx, if_neg hx]
     exact relL_first ht h.2.2
theorem abvL_head (id : Trip) : ∀ (l : List Ut) (a : Nat), a < Ut.counts l → id ∈ abvL id l a
 | [], a, h => by simp [Ut.counts] at h
 | k :: r, a, h => by
   rw [Ut.counts] at h
   rw [abvL]
   split
   · exact List.mem_cons_self
   · exact abvL_head id r _ (by omega)
mutual
theorem turn_rel (W : List Trip) : ∀ (u : Ut) (a : Nat), (a < u.count → ∀ t ∈ abv u a, t ∈ W) → relL W u.all (turn u a).1.all
 | .mk id kind label head words kids, 0, h => by
   rw [turn, Ut.all_eq, Ut.all_eq (Ut.mk id kind label head (words ++ [moreW]) kids)]
   exact ⟨rfl, Or.inl (h (by rw [count_mk]; omega) id (by rw [abv]; exact List.mem_cons_self)), relL_refl W _⟩
 | .mk id kind label head words kids, a + 1, h => by
   rw [count_mk] at h
   rw [abv] at h
   rw [turn, Ut.all_eq, Ut.all_eq (Ut.mk id kind label head words (turnL kids (some a)).1)]
   refine ⟨rfl, ?_, turnL_rel W id kids a (fun hl t ht => h (by omega) t ht)⟩
   by_cases hl : a < Ut.counts kids
   · exact Or.inl (h (by omega) id (abvL_head id kids a hl))
   · right
     rw [turnL_far kids a (by omega)]
theorem turnL_rel (W : List Trip) (id : Trip) : ∀ (l : List Ut) (a : Nat), (a < Ut.counts l → ∀ t ∈ abvL id l a, t ∈ W) → relL W (Ut.alls l) (Ut.alls (turnL l (some a)).1)
 | [], a, _ => by rw [turnL]; exact relL_refl W _
 | k :: r, a, h => by
   rw [Ut.counts, abvL] at h
   rw [turnL, Ut.alls, Ut.alls]
   by_cases h1 : a < k.count
   · rw [if_pos h1] at h
     refine relL_app (turn_rel W k a fun _ t ht => h (by omega) t (List.mem_cons_of_mem _ ht)) ?_
     rw [turn_near k a h1, turnL_none]
     exact relL_refl W _
   · rw [if_neg h1] at h
     rw [turn_far k a (by omega)]
     refine relL_app (relL_refl W _) ?_
     exact turnL_rel W id r (a - k.count) fun hl t ht => h (by omega) t ht
end
theorem rel_ids {W : List Trip} : ∀ {l m : List Ut}, relL W l m → ∀ t, (∃ y ∈ m, y.id = t) → ∃ x ∈ l, x.id = t
 | [], [], _, t, h => h
 | x :: l, y :: m, h, t, hy => by
   obtain ⟨z, hz, e⟩ := hy
   rcases List.mem_cons.1 hz with e2 | e2
   · exact ⟨x, List.mem_cons_self, by rw [← h.1, ← e2]; exact e⟩
   · obtain ⟨w, hw, e3⟩ := rel_ids h.2.2 t ⟨z, e2, e⟩
     exact ⟨w, List.mem_cons_of_mem _ hw, e3⟩
theorem locality (u : Ut) (n : Nat) (_hn : n < u.count) : ∀ t ∈ apartK u.all (turn u n).1.all (u.all ++ (turn u n).1.all), t ∈ abv u n := by
 intro t ht
 have hr := turn_rel (abv u n) u n (fun _ t h => h)
 obtain ⟨_, h2, _⟩ := apart_inv u.all (turn u n).1.all (u.all ++ (turn u n).1.all) [] (by unfold Asc; simp)
 obtain h | ⟨x, hx, h3, h4⟩ := (h2 t).1 ht
 · cases h
 · by_cases hw : t ∈ abv u n
   · exact hw
   · exfalso
     have hex : ∃ x ∈ u.all, x.id = t := by
       rcases List.mem_append.1 hx with h | h
       · exact ⟨x, h, h3⟩
       · exact rel_ids hr t ⟨x, h, h3⟩
     have hf := (first_some t u.all).1 hex
     unfold sameP at h4
     rw [← relL_first hw hr] at h4
     cases hq : firstU t u.all with
     | none => exact hf hq
     | some p => rw [hq] at h4; simp at h4
theorem turnL_app : ∀ (l : List Ut) (k : Ut) (s : Option Nat), turnL (l ++ [k]) s = match (turnL l s).2 with
   | none => ((turnL l s).1 ++ [k], none)
   | some b => ((turnL l s).1 ++ [(turn k b).1], (turn k b).2)
 | [], k, none => by rw [List.nil_append, turnL_none, turnL_none]; rfl
 | [], k, some a => by
   rw [List.nil_append, turnL, turnL]
   cases h : (turn k a).2 with
   | none => simp [turnL, h]
   | some b => simp [turnL, h]
 | x :: l, k, none => by rw [List.cons_append, turnL_none, turnL_none]; rfl
 | x :: l, k, some a => by
   rw [List.cons_append, turnL, turnL_app l k, turnL]
   dsimp only
   split <;> rfl
theorem turnL_len : ∀ (l : List Ut) (s : Option Nat), (turnL l s).1.length = l.length
 | [], s => by rw [turnL]
 | k :: r, none => by rw [turnL]
 | k :: r, some a => by rw [turnL, List.length_cons, List.length_cons, turnL_len r]
structure likeU (x y : Ut) : Prop where
 id : y.id = x.id
 kind : y.kind = x.kind
 label : y.label = x.label
 head : y.head = x.head
 words : y.words = x.words ∨ y.words = x.words ++ [moreW]
 kids : y.kids.length = x.kids.length
mutual
theorem turn_like : ∀ (u : Ut) (a : Nat), ∀ y ∈ (turn u a).1.all, ∃ x ∈ u.all, likeU x y
 | .mk id kind label head words kids, 0, y, hy => by
   rw [turn, Ut.all_eq] at hy
   rw [Ut.all_eq]
   rcases List.mem_cons.1 hy with e | e
   · exact ⟨_, List.mem_cons_self, by rw [e]; exact ⟨rfl, rfl, rfl, rfl, Or.inr rfl, rfl⟩⟩
   · exact ⟨y, List.mem_cons_of_mem _ e, rfl, rfl, rfl, rfl, Or.inl rfl, rfl⟩
 | .mk id kind label head words kids, a + 1, y, hy => by
   rw [turn, Ut.all_eq] at hy
   rw [Ut.all_eq]
   rcases List.mem_cons.1 hy with e | e
   · exact ⟨_, List.mem_cons_self, by rw [e]; exact ⟨rfl, rfl, rfl, rfl, Or.inl rfl, turnL_len kids _⟩⟩
   · obtain ⟨x, hx, h⟩ := turnL_like kids (some a) y e
     exact ⟨x, List.mem_cons_of_mem _ hx, h⟩
theorem turnL_like : ∀ (l : List Ut) (s : Option Nat), ∀ y ∈ Ut.alls (turnL l s).1, ∃ x ∈ Ut.alls l, likeU x y
 | [], s, y, hy => by rw [turnL] at hy; exact ⟨y, hy, rfl, rfl, rfl, rfl, Or.inl rfl, rfl⟩
 | k :: r, none, y, hy => by rw [turnL] at hy; exact ⟨y, hy, rfl, rfl, rfl, rfl, Or.inl rfl, rfl⟩
 | k :: r, some a, y, hy => by
   rw [turnL, Ut.alls] at hy
   rw [Ut.alls]
   rcases List.mem_append.1 hy with e | e
   · obtain ⟨x, hx, h⟩ := turn_like k a y e
     exact ⟨x, List.mem_append.2 (Or.inl hx), h⟩
   · obtain ⟨x, hx, h⟩ := turnL_like r _ y e
     exact ⟨x, List.mem_append.2 (Or.inr hx), h⟩
end
theorem rel_len {W : List Trip} : ∀ {l m : List Ut}, relL W l m → m.length = l.length
 | [], [], _ => rfl
 | x :: l, y :: m, h => by rw [List.length_cons, List.length_cons, rel_len h.2.2]
theorem turn_count (u : Ut) (a : Nat) (_h : a < u.count) : (turn u a).1.count = u.count := by
 have := rel_len (turn_rel (abv u a) u a fun _ t h => h)
 rwa [all_length, all_length] at this
structure SmallU (x : Ut) : Prop where
 ok : OkD x
 words : wtE x.words ≤ 100000
 wl : x.words.length ≤ 1000
theorem more_okd {x y : Ut} (h : SmallU x) (hl : likeU x y) : OkD y := by
 have hw : wtE y.words ≤ 10000000 ∧ OkW y.words ∧ y.words.length ≤ 1000000 := by
   rcases hl.words with e | e
   · rw [e]; exact ⟨h.ok.words, h.ok.okw, h.ok.wl⟩
   · rw [e]
     refine ⟨?_, fun w hw => ?_, ?_⟩
     · have h1 := h.words
       have h2 : wtE [moreW] = 104 := rfl
       rw [wt_txt, txt_app, List.length_append]
       rw [wt_txt] at h1 h2
       omega
     · rcases List.mem_append.1 hw with hw | hw
       · exact h.ok.okw w hw
       · rw [List.mem_singleton] at hw
         rw [hw]
         have h : inN 0 := by unfold inN; decide
         exact ⟨h, h, h⟩
     · have h1 := h.wl
       rw [List.length_append, List.length_singleton]
       omega
 exact ⟨by rw [hl.id]; exact h.ok.id, by rw [hl.kind]; exact h.ok.kind, by rw [hl.label]; exact h.ok.label, by rw [hl.head]; exact h.ok.head, hw.1, by rw [hl.head]; exact h.ok.okh, hw.2.1, by rw [hl.head]; exact h.ok.hl, hw.2.2, by rw [hl.kids]; exact h.ok.kids⟩
theorem turn_fit {u : Ut} (h : ∀ x ∈ u.all, SmallU x) (a : Nat) : FitD (turn u a).1 := fun y hy => by
 obtain ⟨x, hx, hl⟩ := turn_like u a y hy
 exact more_okd (h x hx) hl
theorem heavy_small {u : Ut} (hr : Rch u) (h : heavyB u = false) : ∀ x ∈ u.all, SmallU x := by
 obtain ⟨hf, _, _⟩ := heavy_no hr h
 unfold heavyB at h
 split at h
 · cases h
 · have hall := heavyL_no _ _ h
   intro x hx
   obtain ⟨h1, h2⟩ := hall x hx
   unfold bigU at h1
   rw [Bool.or_eq_false_iff, decide_eq_false_iff_not, decide_eq_false_iff_not] at h1
   rw [txt_app] at h2
   exact ⟨hf x hx, by rw [wt_txt]; omega, by omega⟩
end Go.Proofs.YtopohipcpomecaaDoor.Pd
