/-
  What a renumbered tree is like. Counting; the law that renumbering twice is renumbering once.
-/
import Derived.Test.YtkjgmnmngbfhhaaDoorWFt
namespace Go.Proofs.YtkjgmnmngbfhhaaDoor.Pn
open Go Go.Pv Go.RowKit Go.Proofs.YtkjgmnmngbfhhaaDoor.Pb
set_option linter.unusedSimpArgs false
open Lab Lcs Go.Proofs.YtkjgmnmngbfhhaaDoor Go.Proofs.YtkjgmnmngbfhhaaDoor.Pu
set_option maxRecDepth 10000
set_option maxHeartbeats 8000000
theorem dec_inj : ∀ n : Nat, n < 91 → ∀ m : Nat, m < 91 → decS n = decS m → n = m := by decide +kernel
def posB (l : List Bool) : List Nat := (l.zipIdx.filter fun p => p.1).map Prod.snd
theorem posL_B (l : List Wd) : posL l = posB (l.map fun a => ancB a.text) := by
 unfold posL ancL posB
 rw [List.map_map, List.zipIdx_map, List.filter_map, List.map_map]
 rfl
theorem map_at {α β : Type} {f : α → β} {l r : List α} (hl : l.length = r.length) (h : ∀ (j : Nat) (a : α), r[j]? = some a → ∃ b, l[j]? = some b ∧ f b = f a) : l.map f = r.map f := by
 apply List.ext_getElem?
 intro j
 rw [List.getElem?_map, List.getElem?_map]
 cases hr : r[j]? with
 | none =>
   rw [List.getElem?_eq_none_iff] at hr
   rw [List.getElem?_eq_none (by omega)]
 | some a =>
   obtain ⟨b, hb, hf⟩ := h j a hr
   rw [hb, Option.map_some, Option.map_some, hf]
def newW (u : Ut) : List Wd := renWs (posL u.words) u.words
def newK (u : Ut) : List Ut := renKs (callN u) (u.kids.map renum)
theorem renum_new (u : Ut) : renum u = .mk u.id u.kind u.label u.head (newW u) (newK u) := renum_eq u
theorem newW_len (u : Ut) : (newW u).length = u.words.length := renWs_len _ _
theorem newK_len (u : Ut) : (newK u).length = u.kids.length := by
 have h := renKs_len (callN u).zipIdx (u.kids.map renum)
 rw [List.length_map] at h
 exact h
theorem lab_anc (l : List Wd) : (labL l).length = (ancL l).length := List.length_map _
theorem new_pos {u : Ut} (h90 : (ancL u.words).length ≤ 90) : posL (newW u) = posL u.words := by
 rw [posL_B, posL_B]
 congr 1
 refine map_at (newW_len u) fun j a ha => ?_
 cases hb : ancB a.text with
 | false => exact ⟨a, wrd_plain ha hb, hb⟩
 | true =>
   obtain ⟨i, hi⟩ := anc_mem ha hb
   have hil := (List.getElem?_eq_some_iff.1 hi).1
   exact ⟨_, wrd_anchor ha hi, (anc_dec (i + 1) (by omega) (by omega)).1⟩
theorem pos_anc {l : List Wd} {i j : Nat} (h : (posL l)[i]? = some j) : ∃ a, l[j]? = some a ∧ ancB a.text = true ∧ (ancL l)[i]? = some (j, restS a.text) := by
 unfold posL at h
 rw [List.getElem?_map] at h
 obtain ⟨p, hp, rfl⟩ := Option.map_eq_some_iff.1 h
 obtain ⟨a, h1, h2, h3⟩ := ancL_at (List.mem_of_getElem? hp)
 exact ⟨a, h1, h2, by rw [hp, ← h3]⟩
theorem new_lab {u : Ut} (h90 : (ancL u.words).length ≤ 90) {i : Nat} (hi : i < (labL u.words).length) : (labL (newW u))[i]? = some (decS (i + 1)) := by
 have hil : i < (posL u.words).length := by unfold posL; rw [List.length_map]; rw [lab_anc] at hi; exact hi
 have hj := List.getElem?_eq_getElem hil
 obtain ⟨a, ha, hb, hanc⟩ := pos_anc hj
 have hj2 : (posL (newW u))[i]? = some ((posL u.words)[i]'hil) := by rw [new_pos h90]; exact hj
 obtain ⟨b, hb1, hb2, hb3⟩ := pos_anc hj2
 have := wrd_anchor ha hanc
 rw [show (renWs (posL u.words) u.words) = newW u from rfl, hb1] at this
 rw [lab_anc] at hi
 have he : b.text = crt ++ decS (i + 1) := by rw [Option.some.inj this]; rfl
 have h5 := (pos_of hb3).2
 rw [he, (anc_dec (i + 1) (by omega) (by omega)).2] at h5
 exact h5
theorem new_lab_len {u : Ut} (h90 : (ancL u.words).length ≤ 90) : (labL (newW u)).length = (labL u.words).length := by
 have h1 : (posL (newW u)).length = (posL u.words).length := by rw [new_pos h90]
 unfold posL at h1
 rw [List.length_map, List.length_map] at h1
 rw [lab_anc, lab_anc, h1]
theorem nodup_of {L : List Str} (h : ∀ (i j : Nat) (s : Str), L[i]? = some s → L[j]? = some s → i = j) : L.Nodup := by
 rw [List.Nodup, List.pairwise_iff_getElem]
 intro i j hi hj hij he
 have h1 := List.getElem?_eq_getElem hi
 have h2 := List.getElem?_eq_getElem hj
 rw [he] at h1
 have := h i j _ h1 h2
 omega
theorem new_nodup {u : Ut} (h90 : (ancL u.words).length ≤ 90) : (labL (newW u)).Nodup := by
 have hl := new_lab_len h90
 have h9 := lab_anc u.words
 refine nodup_of fun i j s hi hj => ?_
 have h1 := (List.getElem?_eq_some_iff.1 hi).1
 have h2 := (List.getElem?_eq_some_iff.1 hj).1
 rw [new_lab h90 (by omega)] at hi
 rw [new_lab h90 (by omega)] at hj
 have := dec_inj (i + 1) (by omega) (j + 1) (by omega) ((Option.some.inj hi).trans (Option.some.inj hj).symm)
 omega
theorem noteO_hit {l : List Ut} {s : Str} {k : Nat} {x : Ut} (hx : l[k]? = some x) (h : isNote s x = true) (hp : ∀ y ∈ l.take k, isNote s y = false) : noteO l s = some k := by
 have h1 := idxZ_hit hx h hp
 rw [noteO_idx] at h1
 cases hn : noteO l s with
 | none => rw [hn] at h1; dsimp only at h1; omega
 | some n => rw [hn] at h1; dsimp only at h1; congr 1; omega
theorem at_take {α : Type} {l : List α} {k : Nat} {y : α} (h : y ∈ l.take k) : ∃ i : Nat, i < k ∧ l[i]? = some y := by
 obtain ⟨i, hi⟩ := at_mem h
 have hlt := (List.getElem?_eq_some_iff.1 hi).1
 rw [List.length_take] at hlt
 exact ⟨i, by omega, by rw [List.getElem?_take_of_lt (by omega)] at hi; exact hi⟩
theorem new_kid {u : Ut} (hv : ValU u) {k : Nat} {y : Ut} (hy : (newK u)[k]? = some y) : ∃ x, u.kids[k]? = some x ∧ ((x.kind ≠ 7 ∧ y = renum x) ∨ (x.kind = 7 ∧ ∃ i : Nat, (callN u)[i]? = some k ∧ i < (labL u.words).length ∧ y = relab (renum x) (decS (i + 1)))) := by
 have hlt := (List.getElem?_eq_some_iff.1 hy).1
 rw [newK_len] at hlt
 obtain ⟨x, hx⟩ : ∃ x, u.kids[k]? = some x := ⟨_, List.getElem?_eq_getElem hlt⟩
 refine ⟨x, hx, ?_⟩
 unfold newK at hy
 by_cases h7 : x.kind = 7
 · obtain ⟨i, h1, h2⟩ := hv.note hx h7
   rw [kid_note hv h1, List.getElem?_map, hx] at hy
   exact Or.inr ⟨h7, i, h1, (List.getElem?_eq_some_iff.1 h2).1, (Option.some.inj hy).symm⟩
 · rw [kid_plain hv hx h7, List.getElem?_map, hx] at hy
   exact Or.inl ⟨h7, (Option.some.inj hy).symm⟩
theorem new_note {u : Ut} (hv : ValU u) (h90 : (ancL u.words).length ≤ 90) {i k : Nat} (hi : (callN u)[i]? = some k) : noteO (newK u) (decS (i + 1)) = some k := by
 have hil := (List.getElem?_eq_some_iff.1 hi).1
 rw [hv.len] at hil
 have h9 := lab_anc u.words
 obtain ⟨x, hx, h7⟩ := callN_at (List.mem_of_getElem? hi)
 have hy : (newK u)[k]? = some (relab (renum x) (decS (i + 1))) := by
   unfold newK
   rw [kid_note hv hi, List.getElem?_map, hx]
   rfl
 refine noteO_hit hy ?_ fun y hym => ?_
 · unfold isNote
   rw [show (relab (renum x) (decS (i + 1))).kind = (renum x).kind from rfl, renum_kind, h7, show (relab (renum x) (decS (i + 1))).label = decS (i + 1) from rfl]
   simp
 · obtain ⟨j, hj, hyj⟩ := at_take hym
   obtain ⟨z, hz, hc⟩ := new_kid hv hyj
   rcases hc with ⟨hz7, rfl⟩ | ⟨hz7, i', hi', hil', rfl⟩
   · unfold isNote
     rw [renum_kind]
     simp [hz7]
   · cases hn : isNote (decS (i + 1)) (relab (renum z) (decS (i' + 1))) with
     | false => rfl
     | true =>
       unfold isNote at hn
       simp only [Bool.and_eq_true, decide_eq_true_eq] at hn
       have hd : decS (i' + 1) = decS (i + 1) := hn.2
       have := dec_inj (i' + 1) (by omega) (i + 1) (by omega) hd
       have he : i' = i := by omega
       subst he
       rw [hi] at hi'
       have := Option.some.inj hi'
       omega
theorem new_call {u : Ut} (hv : ValU u) (h90 : (ancL u.words).length ≤ 90) : callN (renum u) = callN u := by
 have hc : callN (renum u) = (labL (newW u)).filterMap (noteO (newK u)) := by
   rw [renum_new]
   show callsL (newK u) (ancL (newW u)) = _
   rw [calls_once, show (ancL (newW u)).map Prod.snd = labL (newW u) from rfl, onceL_nodup _ _ rfl (new_nodup h90)]
 have hl := new_lab_len h90
 have hgo : ∀ i : Nat, i < (labL u.words).length → ∃ k, (callN u)[i]? = some k ∧ noteO (newK u) (decS (i + 1)) = some k := fun i hi => by
   have : i < (callN u).length := by rw [hv.len]; exact hi
   exact ⟨_, List.getElem?_eq_getElem this, new_note hv h90 (List.getElem?_eq_getElem this)⟩
 have hall : ∀ a ∈ labL (newW u), ∃ k, noteO (newK u) a = some k := fun a ha => by
   obtain ⟨i, hi⟩ := at_mem ha
   have hlt := (List.getElem?_eq_some_iff.1 hi).1
   rw [new_lab h90 (by omega)] at hi
   obtain ⟨k, _, hk⟩ := hgo i (by omega)
   exact ⟨k, by rw [← Option.some.inj hi]; exact hk⟩
 rw [hc]
 apply List.ext_getElem?
 intro i
 rcases Nat.lt_or_ge i (labL u.words).length with hlt | hge
 · obtain ⟨k, h1, h2⟩ := hgo i hlt
   rw [filterMap_at hall i _ (new_lab h90 hlt), h1, h2]
 · have h1 : (callN u).length ≤ i := by rw [hv.len]; exact hge
   rw [List.getElem?_eq_none h1, List.getElem?_eq_none]
   refine Nat.le_trans (List.length_filterMap_le _ _) ?_
   omega
theorem bad_nil {u : Ut} : ∀ (n : Nat) (l : List (Nat × Str)), l.length = n → (l.map Prod.snd).Nodup → (∀ a ∈ l, ∃ k, noteO u.kids a.2 = some k) → badL u [] l = [] := by
 intro n
 induction n with
 | zero => intro l hl _ _; obtain rfl := List.eq_nil_of_length_eq_zero hl; rfl
 | succ n ih =>
   intro L hL hnd hall
   obtain ⟨r, x, rfl⟩ : ∃ r x, L = r ++ [x] := ⟨L.dropLast, L.getLast (by intro h; subst h; simp at hL), (List.dropLast_concat_getLast _).symm⟩
   rw [List.map_append] at hnd
   obtain ⟨hr, _, hx⟩ := List.nodup_append.1 hnd
   rw [badL_snoc, ih r (by simpa using hL) hr fun a ha => hall a (List.mem_append_left _ ha), List.nil_append]
   have hin : inB x.2 (r.map Prod.snd) = false := by
     cases h : inB x.2 (r.map Prod.snd)
     · rfl
     · exact absurd rfl (hx x.2 (inB_mem.1 h) x.2 (by simp))
   obtain ⟨k, hk⟩ := hall x (by simp)
   unfold badA
   rw [hin, hk]
   rfl
theorem lost_none {c : List Nat} : ∀ {l : List Ut} {k : Nat}, (∀ (i : Nat) (x : Ut), l[i]? = some x → x.kind = 7 → k + i ∈ c) → lostL c k l = []
 | [], _, _ => rfl
 | x :: l, k, h => by
   simp only [lostL, List.append_eq_nil_iff]
   refine ⟨?_, lost_none fun i y hy h7 => ?_⟩
   · unfold lostA
     split
     · rename_i hc
       exact absurd (by simpa using h 0 x rfl hc.1) hc.2
     · rfl
   · have := h (i + 1) y (by simpa using hy) h7
     rwa [show k + (i + 1) = k + 1 + i by omega] at this
theorem new_per {u : Ut} (hv : ValU u) (h90 : (ancL u.words).length ≤ 90) : perC (renum u) = [] := by
 have hl := new_lab_len h90
 unfold perC
 rw [List.append_eq_nil_iff]
 constructor
 · unfold faultN
   rw [show (renum u).words = newW u by rw [renum_new]; rfl]
   refine bad_nil _ _ rfl (new_nodup h90) fun a ha => ?_
   obtain ⟨i, hi⟩ := at_mem ha
   have hs : (labL (newW u))[i]? = some a.2 := by unfold labL; rw [List.getElem?_map, hi]; rfl
   have hlt := (List.getElem?_eq_some_iff.1 hs).1
   rw [new_lab h90 (by omega)] at hs
   have hlt2 : i < (callN u).length := by rw [hv.len]; omega
   exact ⟨_, by rw [← Option.some.inj hs, show (renum u).kids = newK u by rw [renum_new]; rfl]; exact new_note hv h90 (List.getElem?_eq_getElem hlt2)⟩
 · unfold lostN
   rw [new_call hv h90, show (renum u).kids = newK u by rw [renum_new]; rfl]
   refine lost_none fun k y hy h7 => ?_
   rw [Nat.zero_add]
   obtain ⟨x, hx, hc⟩ := new_kid hv hy
   rcases hc with ⟨hz7, rfl⟩ | ⟨hz7, _⟩
   · rw [renum_kind] at h7; exact absurd h7 hz7
   · exact hv.kid k x hx hz7
theorem renum_all (N : Nat) : ∀ u : Ut, u.count ≤ N → ∀ y ∈ (renum u).all, ∃ x ∈ u.all, ∃ t, y = relab (renum x) t := by
 induction N with
 | zero => intro u h; have := count_pos u; omega
 | succ N ih =>
   intro u hN y hy
   rw [Ut.all_eq] at hy
   rcases List.mem_cons.1 hy with rfl | hy
   · exact ⟨u, by rw [Ut.all_eq]; exact List.mem_cons_self, _, (relab_self _).symm⟩
   · rw [show (renum u).kids = newK u by rw [renum_new]; rfl] at hy
     obtain ⟨z, hz, hyz⟩ := mem_alls.1 hy
     obtain ⟨i, hi⟩ := at_mem hz
     obtain ⟨x, hx, s, rfl⟩ := renKs_at _ _ _ _ hi
     rw [List.getElem?_map] at hx
     obtain ⟨v, hvk, rfl⟩ := Option.map_eq_some_iff.1 hx
     have hvm := List.mem_of_getElem? hvk
     have h1 := kid_lt' hvk
     rw [relab_all] at hyz
     rcases List.mem_cons.1 hyz with rfl | hyz
     · exact ⟨v, kid_all hvm (by rw [Ut.all_eq]; exact List.mem_cons_self), s, rfl⟩
     · obtain ⟨w, hw, t, ht⟩ := ih v (by omega) y (by rw [Ut.all_eq]; exact List.mem_cons_of_mem _ hyz)
       exact ⟨w, kid_all hvm hw, t, ht⟩
theorem relab_perC (x : Ut) (s : Str) : perC (relab x s) = perC x := by
 have h1 : faultN (relab x s) = faultN x := by
   have h : ∀ (l : List (Nat × Str)) (seen : List Str), badL (relab x s) seen l = badL x seen l := by
     intro l
     induction l with
     | nil => intro _; rfl
     | cons a l ih => intro seen; simp only [badL]; rw [ih]; rfl
   exact h _ _
 unfold perC
 rw [h1]
 rfl
theorem relab_perN (x : Ut) (s : Str) : perN (relab x s) = perN x := rfl
theorem new_fds {u : Ut} (h : fdsL u.all = []) (hg : GoodR u) : fdsL (renum u).all = [] := by
 unfold fdsL
 rw [List.flatMap_eq_nil_iff]
 intro y hy
 obtain ⟨x, hx, t, rfl⟩ := renum_all _ u (Nat.le_refl _) y hy
 rw [relab_perC]
 exact new_per (val_all h x hx) (hg x hx).2.1
theorem modify_map {α β : Type} (f : α → β) (g : α → α) (hc : ∀ x, f (g x) = f x) : ∀ (l : List α) (n : Nat), (l.modify n g).map f = l.map f
 | [], n => by simp
 | a :: l, 0 => by simp [hc]
 | a :: l, n + 1 => by simp [modify_map f g hc l n]
theorem renKs_pres {β : Type} (f : Ut → β) (hc : ∀ x s, f (relab x s) = f x) (l : List (Nat × Nat)) : ∀ K : List Ut, (l.foldl kStep K).map f = K.map f := by
 induction l with
 | nil => intro K; rfl
 | cons a l ih =>
   intro K
   rw [List.foldl_cons, ih]
   exact modify_map f _ (fun x => hc x _) K a.1
theorem counts_sum : ∀ l : List Ut, Ut.counts l = (l.map Ut.count).sum
 | [] => rfl
 | x :: r => by simp only [Ut.counts]; rw [counts_sum r]; simp
theorem renum_count (N : Nat) : ∀ u : Ut, u.count ≤ N → (renum u).count = u.count := by
 induction N with
 | zero => intro u h; have := count_pos u; omega
 | succ N ih =>
   intro u hN
   have h1 := Ut.count_eq u
   have h2 := Ut.count_eq (renum u)
   rw [show (renum u).kids = newK u by rw [renum_new]; rfl, counts_sum] at h2
   have h3 : (newK u).map Ut.count = (u.kids.map renum).map Ut.count := renKs_pres _ relab_count _ _
   rw [h3, List.map_map] at h2
   rw [counts_sum] at h1
   have h4 : u.kids.map (Ut.count ∘ renum) = u.kids.map Ut.count := List.map_congr_left fun x hx => by
     obtain ⟨k, hk⟩ := at_mem hx
     have := kid_lt' hk
     exact ih x (by omega)
   rw [h4] at h2
   omega
theorem new_words (u : Ut) (hg : (ancL u.words).length ≤ 90) : renWs (posL (newW u)) (newW u) = newW u := by
 rw [new_pos hg]
 apply List.ext_getElem?
 intro j
 cases hw : u.words[j]? with
 | none =>
   rw [List.getElem?_eq_none_iff] at hw
   have h1 : (renWs (posL u.words) (newW u)).length = (newW u).length := renWs_len _ _
   rw [List.getElem?_eq_none (by rw [h1, newW_len]; exact hw), List.getElem?_eq_none (by rw [newW_len]; exact hw)]
 | some a =>
   rw [renWs_G]
   cases hb : ancB a.text with
   | false =>
     refine (renG_at _ _ _ rfl (posL_nodup _ _ rfl) (newW u) j).1 fun hm => ?_
     obtain ⟨a', h1, h2⟩ := posL_lt hm
     rw [hw] at h1
     rw [← Option.some.inj h1, hb] at h2
     cases h2
   | true =>
     obtain ⟨i, hi⟩ := anc_mem hw hb
     rw [(renG_at _ _ _ rfl (posL_nodup _ u.words rfl) (newW u) j).2 i (pos_of hi).1, show (newW u)[j]? = _ from wrd_anchor hw hi]
     rfl
theorem renum_renum (N : Nat) : ∀ u : Ut, u.count ≤ N → (∀ x ∈ u.all, ValU x) → GoodR u → renum (renum u) = renum u := by
 induction N with
 | zero => intro u h; have := count_pos u; omega
 | succ N ih =>
   intro u hN hva hg
   have hmem : u ∈ u.all := by rw [Ut.all_eq]; exact List.mem_cons_self
   have hv := hva u hmem
   have h90 := (hg u hmem).2.1
   rw [renum_eq (renum u), new_call hv h90]
   have hK : renKs (callN u) ((newK u).map renum) = newK u := by
     have h1 : (newK u).map renum = renKs (callN u) ((u.kids.map renum).map renum) := renKs_map _ _
     have h2 : (u.kids.map renum).map renum = u.kids.map renum := by
       rw [List.map_map]
       refine List.map_congr_left fun x hx => ?_
       obtain ⟨k, hk⟩ := at_mem hx
       have := kid_lt' hk
       exact ih x (by omega) (fun y hy => hva y (kid_all hx hy)) fun y hy => hg y (kid_all hx hy)
     rw [h1, h2]
     show renKs (callN u) (newK u) = newK u
     rw [renKs_G]
     apply List.ext_getElem?
     intro k
     by_cases hk : k ∈ callN u
     · obtain ⟨i, hi⟩ := at_mem hk
       obtain ⟨x, hx, h7⟩ := callN_at hk
       rw [(renG_at _ _ _ rfl hv.nd (newK u) k).2 i hi]
       unfold newK
       rw [kid_note hv hi, List.getElem?_map, hx]
       rfl
     · exact (renG_at _ _ _ rfl hv.nd (newK u) k).1 hk
   have hW : (renum u).words = newW u := by rw [renum_new]; rfl
   have hKd : (renum u).kids = newK u := by rw [renum_new]; rfl
   rw [hW, hKd, hK, show renWs ((ancL (newW u)).map Prod.fst) (newW u) = newW u from new_words u h90, renum_new u]
   rfl
theorem new_perN {u : Ut} (hv : ValU u) (h90 : (ancL u.words).length ≤ 90) : perN (renum u) = perN u := by
 unfold perN
 rw [new_call hv h90]
 refine List.map_congr_left fun n hn => ?_
 obtain ⟨x, hx, h7⟩ := callN_at hn
 obtain ⟨i, hi⟩ := at_mem hn
 have : (newK u)[n]? = some (relab (renum x) (decS (i + 1))) := by
   unfold newK
   rw [kid_note hv hi, List.getElem?_map, hx]
   rfl
 unfold kidId
 rw [show (renum u).kids = newK u by rw [renum_new]; rfl, this, hx]
 exact renum_id x
theorem relab_notL (x : Ut) (s : Str) : notL (relab x s).all = notL x.all := by
 rw [notL_all, notL_all, relab_perN]
 rfl
theorem notL_alls : ∀ l : List Ut, notL (Ut.alls l) = (l.map fun x => notL x.all).flatten
 | [] => rfl
 | x :: r => by simp only [Ut.alls]; rw [notL_app, notL_alls r]; simp
theorem new_not (N : Nat) : ∀ u : Ut, u.count ≤ N → (∀ x ∈ u.all, ValU x) → GoodR u → notL (renum u).all = notL u.all := by
 induction N with
 | zero => intro u h; have := count_pos u; omega
 | succ N ih =>
   intro u hN hva hg
   have hmem : u ∈ u.all := by rw [Ut.all_eq]; exact List.mem_cons_self
   rw [notL_all, notL_all, new_perN (hva u hmem) (hg u hmem).2.1, show (renum u).kids = newK u by rw [renum_new]; rfl, notL_alls, notL_alls]
   congr 2
   have h3 : (newK u).map (fun x => notL x.all) = (u.kids.map renum).map (fun x => notL x.all) := renKs_pres _ relab_notL _ _
   rw [h3, List.map_map]
   refine List.map_congr_left fun x hx => ?_
   obtain ⟨k, hk⟩ := at_mem hx
   have := kid_lt' hk
   exact ih x (by omega) (fun y hy => hva y (kid_all hx hy)) fun y hy => hg y (kid_all hx hy)
theorem new_ok {u : Ut} (hok : OkT u) : OkT (renum u) := by
 intro y hy
 obtain ⟨x, hx, t, rfl⟩ := renum_all _ u (Nat.le_refl _) y hy
 obtain ⟨h1, h2, h3⟩ := hok x hx
 have hW : (relab (renum x) t).words = newW x := by rw [renum_new]; rfl
 have hK : (relab (renum x) t).kids = newK x := by rw [renum_new]; rfl
 unfold Ok1
 rw [hW, hK, newW_len, newK_len]
 refine ⟨h1, fun b hb => ?_, h3⟩
 obtain ⟨j, hj⟩ := at_mem hb
 have hlt := (List.getElem?_eq_some_iff.1 hj).1
 rw [newW_len] at hlt
 have ha := List.getElem?_eq_getElem hlt
 cases hanc : ancB (x.words[j]'hlt).text with
 | false =>
   rw [show (newW x)[j]? = _ from wrd_plain ha hanc] at hj
   rw [← Option.some.inj hj]
   exact h2 _ (List.mem_of_getElem? ha)
 | true =>
   obtain ⟨i, hi⟩ := anc_mem ha hanc
   rw [show (newW x)[j]? = _ from wrd_anchor ha hi] at hj
   rw [← Option.some.inj hj]
   show (crt ++ decS (i + 1)).size ≤ 100000
   rw [ByteArray.size_append]
   have h2 : crt.size = 1 := rfl
   have h3 := dec_size (i + 1)
   omega
theorem new_good {u : Ut} (h : fdsL u.all = []) (hg : GoodR u) : GoodR (renum u) := by
 intro y hy
 obtain ⟨x, hx, t, rfl⟩ := renum_all _ u (Nat.le_refl _) y hy
 obtain ⟨h1, h2, h3⟩ := hg x hx
 have hv := val_all h x hx
 have hc := new_call hv h2
 have hl := new_lab_len h2
 rw [lab_anc, lab_anc] at hl
 have hW : (relab (renum x) t).words = newW x := by rw [renum_new]; rfl
 rw [hW, show callN (relab (renum x) t) = callN (renum x) from rfl, hc, hl]
 exact ⟨h1, h2, by rw [renum_new]; exact h3⟩
end Go.Proofs.YtkjgmnmngbfhhaaDoor.Pn
namespace Go.Proofs.YtkjgmnmngbfhhaaDoor.Pn
open Go Go.Pv Go.RowKit Go.Proofs.YtkjgmnmngbfhhaaDoor.Pb
set_option linter.unusedSimpArgs false
open Lab Lcs Go.Proofs.YtkjgmnmngbfhhaaDoor Go.Proofs.YtkjgmnmngbfhhaaDoor.Pu
set_option maxRecDepth 10000
set_option maxHeartbeats 16000000
def digV (n k : Nat) : Nat := ((decB n).take k).foldl (fun v c => 10 * v + (c.toNat - 48)) 0
theorem dig_step : ∀ n : Nat, n < 100 → ∀ k : Nat, k < 2 → ∀ c ∈ (decB n)[k]?, 48 ≤ c.toNat ∧ c.toNat ≤ 57 ∧ digV n k ≤ 9 ∧ digV n (k + 1) = 10 * digV n k + (c.toNat - 48) := by decide +kernel
theorem dig_end : ∀ n : Nat, n < 100 → digV n (decB n).length = n := by decide +kernel
theorem decB_len (n : Nat) : (decB n).length ≤ 2 := by unfold decB; split <;> simp
theorem decS_size (n : Nat) : (decS n).size = (decB n).length := by
 show ((decB n).toArray).size = _
 simp
def CntOk (u : Ut) : Prop := ∀ x ∈ u.all, Ok1 x ∧ (labL x.words).length ≤ 90 ∧ ∀ (i : Nat) (s : Str), (labL x.words)[i]? = some s → s = decS (i + 1)
theorem u8_sub {z : Int} (h1 : 48 ≤ z) (h2 : z ≤ 57) : IntKind.u8.wrap (z - 48) = z - 48 := by
 simp [IntKind.wrap, IntKind.signed, IntKind.bits]
 omega
theorem counted_pc (N : Nat) : ∀ u : Ut, u.count ≤ N → N ≤ 1000 → CntOk u → PC Tryd.prog env0 27 [uv u] [.bool true] := by
 induction N with
 | zero => intro u h; have := count_pos u; omega
 | succ N ih =>
 intro u hN hM hcn
 have hue := uv_eq u
 have hmem : u ∈ u.all := by rw [Ut.all_eq]; exact List.mem_cons_self
 obtain ⟨hou, h90, hlab⟩ := hcn u hmem
 have hA := (labels_pcr u hou).pc
 have hkl : (u.kids.map uv).length = u.kids.length := List.length_map _
 have hk0 := hou.2.2
 generalize labL u.words = L at hA h90 hlab
 have hll : (sv L).length = L.length := sv_len L
 rw [hue] at hA ⊢
 refine PC.of_va (T := tbw) eqw_ok tbw_ok rfl mixed Tryd.func27 rfl rfl (Nat.le_of_ble_eq_true rfl) ?_; intro Γ C WK LP fin h0 hW hC hB hR hLP hfin
 (try (conv => whnf)); (repeat ((first | refine qT ?_ | refine qF ?_ | refine qO ?_ | (with_reducible intro z hz); (first | (replace hz := hz (by omega); subst hz) | subst hz) | (refine CallV.mk _ (hC _ _ _ (PCw.of hA)) (fun js hjs => ?_); subst hjs)); (try (conv => whnf))))
 refine hLP _ _ _ Nat (fun i => ⟨[(1, .ptr 0 1 0), (3, .imm (.sl 1 (sv L))), (4, .imm (.int .i64 (i : Nat)))], [.box 1 [.imm (.int .i64 u.id.x), .imm (.int .i64 u.id.y), .imm (.int .i64 u.id.z), .imm (.int .i64 u.kind), .imm (.str u.label), .imm (.sl 4 (u.head.map wdv)), .imm (.sl 4 (u.words.map wdv)), .imm (.sl 8 (u.kids.map uv))]]⟩) (fun i => i ≤ L.length) (fun i => L.length - i) 0 (Nat.zero_le _) (qSL 1 rfl rfl) ?_
 intro i hi
 have hho := Nat.lt_or_ge i L.length
 cases hho with
 | inl hlt =>
   obtain ⟨s, hs⟩ : ∃ s, L[i]? = some s := ⟨L[i], List.getElem?_eq_getElem hlt⟩
   have hse := hlab i s hs
   have hsz := decS_size (i + 1)
   have hb2 := decB_len (i + 1)
   have hst := dig_step (i + 1) (by omega)
   have hen := dig_end (i + 1) (by omega)
   have hdat : ∀ (k : Nat) (c : UInt8), (decS (i + 1)).data[k]? = some c → (decB (i + 1))[k]? = some c := fun k c h => by
     unfold decS at h
     rw [List.getElem?_toArray] at h
     exact h
   subst hse
   generalize hD : decB (i + 1) = D at hsz hb2 hst hen hdat
   have hz0 : digV (i + 1) 0 = 0 := rfl
   (try (conv => whnf)); (repeat ((first | refine qT ?_ | refine qF ?_ | refine qO ?_ | (with_reducible intro z hz); (first | (replace hz := hz (by omega); subst hz) | subst hz)); (try (conv => whnf))))
   refine hLP _ _ _ Nat (fun k => ⟨[(1, .ptr 0 1 0), (3, .imm (.sl 1 (sv L))), (4, .imm (.int .i64 (i : Nat))), (5, .imm (.int .i64 (digV (i + 1) k : Nat))), (6, .imm (.int .i64 (k : Nat)))], [.box 1 [.imm (.int .i64 u.id.x), .imm (.int .i64 u.id.y), .imm (.int .i64 u.id.z), .imm (.int .i64 u.kind), .imm (.str u.label), .imm (.sl 4 (u.head.map wdv)), .imm (.sl 4 (u.words.map wdv)), .imm (.sl 8 (u.kids.map uv))]]⟩) (fun k => k ≤ D.length) (fun k => D.length - k) 0 (Nat.zero_le _) (qSL 1 rfl rfl) ?_
   intro k hk
   have hho := Nat.lt_or_ge k D.length
   cases hho with
   | inl hlt2 =>
     obtain ⟨c0, hc0⟩ : ∃ c, D[k]? = some c := ⟨D[k], List.getElem?_eq_getElem hlt2⟩
     obtain ⟨g1, g2, g3, g4⟩ := hst k (by omega) c0 hc0
     (try (conv => whnf)); (repeat ((first | refine qT ?_ | refine qF ?_ | refine qO ?_ | (with_reducible intro z hz); (first | (replace hz := hz (by omega); subst hz) | subst hz)); (try (conv => whnf))))
     refine Idx.mk i (.str (decS (i + 1))) _ rfl (by simp [sv, hs]) rfl ?_
     (try (conv => whnf)); (repeat ((first | refine qT ?_ | refine qF ?_ | refine qO ?_ | (with_reducible intro z hz); (first | (replace hz := hz (by omega); subst hz) | subst hz)); (try (conv => whnf))))
     refine Idx.mk i (.str (decS (i + 1))) _ rfl (by simp [sv, hs]) rfl ?_
     (try (conv => whnf)); (repeat ((first | refine qT ?_ | refine qF ?_ | refine qO ?_ | (with_reducible intro z hz); (first | (replace hz := hz (by omega); subst hz) | subst hz)); (try (conv => whnf))))
     intro c z hc hz
     have hcc : c0 = c := Option.some.inj (hc0.symm.trans (hdat k c hc))
     subst hcc
     have hw := u8_sub (z := z) (by omega) (by omega)
     (try (conv => whnf)); (repeat ((first | refine qT ?_ | refine qF ?_ | refine qO ?_ | (with_reducible intro z hz); (first | (replace hz := hz (by omega); subst hz) | subst hz)); (try (conv => whnf))))
     exact ⟨k + 1, by omega, by dsimp only; omega, (qSL 1 rfl rfl)⟩
   | inr hge =>
     obtain rfl : k = D.length := by omega
     rw [hen]
     (try (conv => whnf)); (repeat ((first | refine qT ?_ | refine qF ?_ | refine qO ?_ | (with_reducible intro z hz); (first | (replace hz := hz (by omega); subst hz) | subst hz)); (try (conv => whnf))))
     refine Idx.mk i (.str (decS (i + 1))) _ rfl (by simp [sv, hs]) rfl ?_
     (try (conv => whnf)); (repeat ((first | refine qT ?_ | refine qF ?_ | refine qO ?_ | (with_reducible intro z hz); (first | (replace hz := hz (by omega); subst hz) | subst hz)); (try (conv => whnf))))
     exact ⟨i + 1, by omega, by dsimp only; omega, (qSL 1 rfl rfl)⟩
 | inr hge =>
   obtain rfl : i = L.length := by omega
   (try (conv => whnf)); (repeat ((first | refine qT ?_ | refine qF ?_ | refine qO ?_ | (with_reducible intro z hz); (first | (replace hz := hz (by omega); subst hz) | subst hz)); (try (conv => whnf))))
   refine hLP _ _ _ Nat (fun k => ⟨[(1, .ptr 0 1 0), (7, .imm (.int .i64 (k : Nat)))], [.box 1 [.imm (.int .i64 u.id.x), .imm (.int .i64 u.id.y), .imm (.int .i64 u.id.z), .imm (.int .i64 u.kind), .imm (.str u.label), .imm (.sl 4 (u.head.map wdv)), .imm (.sl 4 (u.words.map wdv)), .imm (.sl 8 (u.kids.map uv))]]⟩) (fun k => k ≤ u.kids.length) (fun k => u.kids.length - k) 0 (Nat.zero_le _) (qSL 1 rfl rfl) ?_
   intro k hk
   have hho := Nat.lt_or_ge k u.kids.length
   cases hho with
   | inl hlt =>
     refine (?_ : ∀ Q : Exit → AS → Prop, vcS _ _ _ _ _ _ _ (loopQA _ _ _ _ _ _ Q)) _; intro Q
     obtain ⟨x, hx⟩ : ∃ x, u.kids[k]? = some x := ⟨u.kids[k], List.getElem?_eq_getElem hlt⟩
     have hux := uv_eq x
     have h1 := kid_lt' hx
     have hI := ih x (by omega) (by omega) fun y hy => hcn y (kid_all (List.mem_of_getElem? hx) hy)
     rw [hux] at hI
     (try (conv => whnf)); (repeat ((first | refine qT ?_ | refine qF ?_ | refine qO ?_ | (with_reducible intro z hz); (first | (replace hz := hz (by omega); subst hz) | subst hz)); (try (conv => whnf))))
     refine Idx.mk k (uv x) _ rfl (by simp [hx]) (by rw [hux]; try rfl) ?_
     (try (conv => whnf)); (repeat ((first | refine qT ?_ | refine qF ?_ | refine qO ?_ | (with_reducible intro z hz); (first | (replace hz := hz (by omega); subst hz) | subst hz) | (refine CallV.mk _ (hC _ _ _ (PCw.of hI)) (fun js hjs => ?_); subst hjs)); (try (conv => whnf))))
     exact ⟨k + 1, by omega, by dsimp only; omega, (qSL 1 rfl rfl)⟩
   | inr hge =>
     obtain rfl : k = u.kids.length := by omega
     (try (conv => whnf)); (repeat ((first | refine qT ?_ | refine qF ?_ | refine qO ?_ | (with_reducible intro z hz); (first | (replace hz := hz (by omega); subst hz) | subst hz)); (try (conv => whnf))))
     exact hfin _ (ILes.refl _)
theorem new_cnt {u : Ut} (hok : OkT u) (hg : GoodR u) : CntOk (renum u) := by
 intro y hy
 refine ⟨new_ok hok y hy, ?_⟩
 obtain ⟨x, hx, t, rfl⟩ := renum_all _ u (Nat.le_refl _) y hy
 have h90 := (hg x hx).2.1
 have hl := new_lab_len h90
 have h9 := lab_anc x.words
 rw [show (relab (renum x) t).words = newW x by rw [renum_new]; rfl]
 refine ⟨by omega, fun i s hs => ?_⟩
 have hlt := (List.getElem?_eq_some_iff.1 hs).1
 rw [new_lab h90 (by omega)] at hs
 exact (Option.some.inj hs).symm
theorem lawIdempotence (u : Ut) (hu : okU u) : PC Tryd.prog env0 6 [uv u] [.bool true] := by
 have hA := awake_pc
 have hF := few_pc u 60 hu (by omega) (by omega)
 have hue := uv_eq u
 cases hb : fewU u 60
 · rw [hb] at hF
   rw [hue] at hF ⊢
   refine PC.of_va (T := tbw) eqw_ok tbw_ok rfl mixed Tryd.func6 rfl rfl (Nat.le_of_ble_eq_true rfl) ?_; intro Γ C WK LP fin h0 hW hC hB hR hLP hfin
   (try (conv => whnf)); (repeat ((first | refine qT ?_ | refine qF ?_ | refine qO ?_ | (with_reducible intro z hz); (first | (replace hz := hz (by omega); subst hz) | subst hz) | (refine CallV.mk _ (hC _ _ _ (PCw.of hA)) (fun js hjs => ?_); subst hjs) | (refine CallV.mk _ (hC _ _ _ (PCw.of hF)) (fun js hjs => ?_); subst hjs)); (try (conv => whnf))))
   exact hfin _ (ILes.refl _)
 rw [hb] at hF
 obtain ⟨hs, hok, hc⟩ := few_count hb
 have hRe := renumber_pc u hok (by omega) (good_of hs (by omega))
 have hVa := fvalid_pc u hok (by omega)
 by_cases hL : fdsL u.all = []
 · have hg := good_of hs (by omega) hL
   have hva := val_all hL
   have hcr := renum_count _ u (Nat.le_refl _)
   have hok2 := new_ok hok
   have hnf := new_fds hL hg
   have hR2 := renumber_pc (renum u) hok2 (by omega) (fun _ => new_good hL hg)
   have hV2 := fvalid_pc (renum u) hok2 (by omega)
   have hrr := renum_renum _ u (Nat.le_refl _) hva hg
   have hn1 := notes_pc u hok (by omega)
   have hn2 := notes_pc (renum u) hok2 (by omega)
   rw [new_not _ u (Nat.le_refl _) hva hg] at hn2
   have hnl : (notL u.all).length ≤ 100000000 := by
     have h := notL_len u.all hok
     rw [all_len] at h
     omega
   have hal := alike_pc (notL u.all) (notL u.all) hnl
   have hsm := same_pc (renum u) (renum u) (renum_okU u hu) (renum_okU u hu)
   rw [decide_eq_true rfl] at hsm hal
   have hcn := counted_pc 60 (renum u) (by omega) (by omega) (new_cnt hok hg)
   unfold renV at hRe hR2
   rw [if_pos hL, decide_eq_true hL] at hRe
   rw [if_pos hnf, decide_eq_true hnf, hrr] at hR2
   rw [decide_eq_true hL] at hVa
   rw [decide_eq_true hnf] at hV2
   have hre := uv_eq (renum u)
   generalize notL u.all = M at hn1 hn2 hal
   rw [hre] at hRe hR2 hV2 hn2 hsm hcn
   rw [hue] at hF hRe hVa hn1 ⊢
   refine PC.of_va (T := tbw) eqw_ok tbw_ok rfl mixed Tryd.func6 rfl rfl (Nat.le_of_ble_eq_true rfl) ?_; intro Γ C WK LP fin h0 hW hC hB hR hLP hfin
   (try (conv => whnf)); (repeat ((first | refine qT ?_ | refine qF ?_ | refine qO ?_ | (with_reducible intro z hz); (first | (replace hz := hz (by omega); subst hz) | subst hz) | (refine CallV.mk _ (hC _ _ _ (PCw.of hA)) (fun js hjs => ?_); subst hjs) | (refine CallV.mk _ (hC _ _ _ (PCw.of hF)) (fun js hjs => ?_); subst hjs) | (refine CallV.mk _ (hC _ _ _ (PCw.of hRe)) (fun js hjs => ?_); subst hjs) | (refine CallV.mk _ (hC _ _ _ (PCw.of hVa)) (fun js hjs => ?_); subst hjs) | (refine CallV.mk _ (hC _ _ _ (PCw.of hR2)) (fun js hjs => ?_); subst hjs) | (refine CallV.mk _ (hC _ _ _ (PCw.of hV2)) (fun js hjs => ?_); subst hjs) | (refine CallV.mk _ (hC _ _ _ (PCw.of hsm)) (fun js hjs => ?_); subst hjs) | (refine CallV.mk _ (hC _ _ _ (PCw.of hn2)) (fun js hjs => ?_); subst hjs) | (refine CallV.mk _ (hC _ _ _ (PCw.of hn1)) (fun js hjs => ?_); subst hjs) | (refine CallV.mk _ (hC _ _ _ (PCw.of hal)) (fun js hjs => ?_); subst hjs) | (refine CallV.mk _ (hC _ _ _ (PCw.of hcn)) (fun js hjs => ?_); subst hjs)); (try (conv => whnf))))
   exact hfin _ (ILes.refl _)
 · unfold renV at hRe
   rw [if_neg hL, decide_eq_false hL] at hRe
   rw [decide_eq_false hL] at hVa
   have hze := uv_eq zeroU
   rw [hze] at hRe
   rw [hue] at hF hRe hVa ⊢
   refine PC.of_va (T := tbw) eqw_ok tbw_ok rfl mixed Tryd.func6 rfl rfl (Nat.le_of_ble_eq_true rfl) ?_; intro Γ C WK LP fin h0 hW hC hB hR hLP hfin
   (try (conv => whnf)); (repeat ((first | refine qT ?_ | refine qF ?_ | refine qO ?_ | (with_reducible intro z hz); (first | (replace hz := hz (by omega); subst hz) | subst hz) | (refine CallV.mk _ (hC _ _ _ (PCw.of hA)) (fun js hjs => ?_); subst hjs) | (refine CallV.mk _ (hC _ _ _ (PCw.of hF)) (fun js hjs => ?_); subst hjs) | (refine CallV.mk _ (hC _ _ _ (PCw.of hRe)) (fun js hjs => ?_); subst hjs) | (refine CallV.mk _ (hC _ _ _ (PCw.of hVa)) (fun js hjs => ?_); subst hjs)); (try (conv => whnf))))
   exact hfin _ (ILes.refl _)
end Go.Proofs.YtkjgmnmngbfhhaaDoor.Pn
