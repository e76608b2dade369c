/-
  The way up in trees of distinct IDs; where a Move leads, by the program's reckoning and by the reference's.
-/
import Derived.Test.YtiohjjgncbhimaaDoorWAop
namespace Go.Proofs.YtiohjjgncbhimaaDoor.Pk
open Go Go.Pv Go.RowKit Go.Proofs.YtiohjjgncbhimaaDoor.Pu Go.Proofs.YtiohjjgncbhimaaDoor.Pa Go.Proofs.YtiohjjgncbhimaaDoor.Pb
set_option linter.unusedSimpArgs false
open Lab Lcs Go.Proofs.YtiohjjgncbhimaaDoor
set_option maxRecDepth 10000
theorem linK_none_of {t : Trip} {l : List Ut} (h : ∀ y ∈ Ut.alls l, y.id ≠ t) : linK t l = [] := by
 induction l with
 | nil => rfl
 | cons u r ih =>
   have h1 : linL t u = [] := by
     cases hc : linL t u with
     | nil => rfl
     | cons x s =>
       obtain ⟨h2, h3⟩ := lin_head u.count (Nat.le_refl _) x s hc
       exact absurd h2 (h x (by simp only [Ut.alls]; exact List.mem_append_left _ h3))
   rw [linK, h1]
   exact ih fun y hy => h y (by simp only [Ut.alls]; exact List.mem_append_right _ hy)
theorem linK_at {t : Trip} : ∀ {l : List Ut}, linK t l ≠ [] → ∃ k x, l[k]? = some x ∧ linK t (l.take k) = [] ∧ linL t x ≠ [] ∧ linK t l = linL t x
 | [], h => absurd rfl h
 | u :: r, h => by
   rw [linK] at h ⊢
   by_cases he : (linL t u).isEmpty = true
   · rw [if_pos he] at h ⊢
     obtain ⟨k, x, h1, h2, h3, h4⟩ := linK_at h
     refine ⟨k + 1, x, by simpa using h1, ?_, h3, h4⟩
     rw [List.take_succ_cons, linK, if_pos he]
     exact h2
   · rw [if_neg he]
     exact ⟨0, u, rfl, rfl, by simpa using he, rfl⟩
theorem lin_last {t : Trip} {u : Ut} (h : linL t u ≠ []) : (linL t u).getLast? = some u := by
 by_cases hi : u.id = t
 · rw [lin_self hi]; rfl
 · by_cases hk : linK t u.kids = []
   · exact absurd (lin_none hi hk) h
   · rw [lin_some hi hk]
     simp
theorem all_kids (u : Ut) : u.all = u :: Ut.alls u.kids := by cases u; exact all_mk _ _ _ _ _ _
theorem alls_split {l : List Ut} {k : Nat} {x : Ut} (h : l[k]? = some x) : Ut.alls l = Ut.alls (l.take k) ++ (x.all ++ Ut.alls (l.drop (k + 1))) := by
 have h1 : l = l.take k ++ (x :: l.drop (k + 1)) := by
   obtain ⟨hk, he⟩ := List.getElem?_eq_some_iff.1 h
   rw [← he, List.getElem_cons_drop, List.take_append_drop]
 conv => lhs; rw [h1, alls_app]
 simp only [Ut.alls]
theorem lin_up {t : Trip} : ∀ (n : Nat) (u : Ut), u.count ≤ n → (u.all.map Ut.id).Nodup → ∀ x p r, linL t u = x :: p :: r → linL p.id u = p :: r
 | 0, u, hn, _, _, _, _, _ => by have := count_pos u; omega
 | n + 1, u, hn, hd, x, p, r, h => by
   by_cases hi : u.id = t
   · rw [lin_self hi] at h; simp at h
   by_cases hk : linK t u.kids = []
   · rw [lin_none hi hk] at h; cases h
   obtain ⟨k, y, hy, hno, hne, he⟩ := linK_at hk
   rw [lin_some hi hk, he] at h
   have hyc : y.count ≤ n := by
     cases u with
     | mk id kind label head words kids => exact Nat.le_of_lt_succ (Nat.lt_of_lt_of_le (kid_lt (kids := kids) hy) hn)
   have hsp := alls_split hy
   have hall := all_kids u
   rw [hall, hsp] at hd
   simp only [List.map_cons, List.map_append, List.nodup_cons, List.nodup_append] at hd
   obtain ⟨hd1, hd2, ⟨hd3, hd4, hd5⟩, hd6⟩ := hd
   cases hc : linL t y with
   | nil => exact absurd hc hne
   | cons a s =>
     rw [hc] at h
     cases s with
     | nil =>
       simp only [List.cons_append, List.nil_append, List.cons.injEq] at h
       obtain ⟨_, rfl, rfl⟩ := h
       exact lin_self rfl
     | cons b s =>
       simp only [List.cons_append, List.cons.injEq] at h
       obtain ⟨rfl, rfl, rfl⟩ := h
       have hI := lin_up n y hyc hd3 a b s hc
       have hbm := (lin_head y.count (Nat.le_refl _) b s hI).2
       have hbid : b.id ∈ y.all.map Ut.id := List.mem_map_of_mem hbm
       have hub : u.id ≠ b.id := fun e => hd1 (by
         rw [e]
         exact List.mem_append_right _ (List.mem_append_left _ hbid))
       have hnb : linK b.id (u.kids.take k) = [] := linK_none_of fun z hz e => hd6 z.id (List.mem_map_of_mem hz) b.id (List.mem_append_left _ hbid) e
       have hhit := linK_hit hy hnb (by rw [hI]; simp)
       rw [lin_some hub (by rw [hhit, hI]; simp), hhit, hI]
       rfl
theorem ids_eq (u : Ut) : u.ids = u.id :: (Ut.alls u.kids).map Ut.id := by unfold Ut.ids; rw [Ut.all_eq]; rfl
theorem kid_count {u k : Ut} (h : k ∈ u.kids) : k.count < u.count := by
 obtain ⟨i, hi, rfl⟩ := List.getElem_of_mem h
 have := counts_mem (List.getElem?_eq_getElem hi)
 have := Ut.count_eq u
 omega
theorem nodup_kid {u k : Ut} (h : u.ids.Nodup) (hk : k ∈ u.kids) : k.ids.Nodup := by
 rw [ids_eq, List.nodup_cons] at h
 have key : ∀ l : List Ut, ((Ut.alls l).map Ut.id).Nodup → ∀ k ∈ l, k.ids.Nodup := by
   intro l
   induction l with
   | nil => intro _ k hk; cases hk
   | cons a r ih =>
     intro h k hk
     rw [Ut.alls, List.map_append, List.nodup_append] at h
     rcases List.mem_cons.1 hk with rfl | hk
     · exact h.1
     · exact ih h.2.1 k hk
 exact key _ h.2 k hk
theorem nodup_apart : ∀ {l : List Ut}, ((Ut.alls l).map Ut.id).Nodup → ∀ {i j : Nat} {a b : Ut}, l[i]? = some a → l[j]? = some b → i ≠ j → ∀ x ∈ a.all, ∀ y ∈ b.all, x.id ≠ y.id
 | [], _, i, j, a, b, h1, _, _ => by simp at h1
 | c :: r, h, i, j, a, b, h1, h2, hne => by
   rw [Ut.alls, List.map_append, List.nodup_append] at h
   intro x hx y hy
   match i, j with
   | 0, 0 => exact absurd rfl hne
   | 0, j + 1 =>
     simp only [List.getElem?_cons_zero, Option.some.injEq] at h1
     simp only [List.getElem?_cons_succ] at h2
     subst h1
     exact h.2.2 x.id (List.mem_map.2 ⟨x, hx, rfl⟩) y.id (List.mem_map.2 ⟨y, mem_alls.2 ⟨b, List.mem_of_getElem? h2, hy⟩, rfl⟩)
   | i + 1, 0 =>
     simp only [List.getElem?_cons_zero, Option.some.injEq] at h2
     simp only [List.getElem?_cons_succ] at h1
     subst h2
     exact fun e => h.2.2 y.id (List.mem_map.2 ⟨y, hy, rfl⟩) x.id (List.mem_map.2 ⟨x, mem_alls.2 ⟨a, List.mem_of_getElem? h1, hx⟩, rfl⟩) e.symm
   | i + 1, j + 1 =>
     simp only [List.getElem?_cons_succ] at h1 h2
     exact nodup_apart h.2.1 h1 h2 (by omega) x hx y hy
def namedB (u : Ut) : Bool := u.all.all fun x => decide (x.kind = 0) || decide (x.id ≠ .zero)
noncomputable def standsB (u : Ut) : Bool := validB u && namedB u
theorem kid_kinds {u : Ut} (hv : validB u = true) : ∀ x ∈ Ut.alls u.kids, 1 ≤ x.kind ∧ x.kind ≤ 7 := by
 obtain ⟨_, _, _, hk⟩ := Pa.valid_facts hv
 have key : ∀ (n : Nat) (y : Ut), y.count ≤ n → (∀ z ∈ y.all, kidsB z = true) → ∀ x ∈ Ut.alls y.kids, 1 ≤ x.kind ∧ x.kind ≤ 7 := by
   intro n
   induction n with
   | zero => intro y hy; have := count_pos y; omega
   | succ n ih =>
     intro y hy hz x hx
     obtain ⟨k, hk, hx⟩ := mem_alls.1 hx
     rw [Ut.all_eq] at hx
     rcases List.mem_cons.1 hx with rfl | hx
     · exact Pa.nests_kind ((Pa.kids_facts (hz y (self_all y))).2 _ hk)
     · exact ih k (by have := kid_count hk; omega) (fun z h => hz z (Pa.kid_in hk z h)) x hx
 exact key u.count u (Nat.le_refl _) hk
theorem stands_nodup {u : Ut} (h : standsB u = true) : u.ids.Nodup := by
 unfold standsB at h
 rw [Bool.and_eq_true] at h
 have hk := kid_kinds h.1
 have h1 := h.1
 have h2 := h.2
 unfold validB idsB at h1
 simp only [Bool.and_eq_true, Bool.or_eq_true, decide_eq_true_eq] at h1
 rcases h1.2 with h3 | h3
 · unfold zeroIds at h3
   unfold namedB at h2
   rw [List.all_eq_true] at h2 h3
   have hnil : Ut.alls u.kids = [] := by
     cases hq : Ut.alls u.kids with
     | nil => rfl
     | cons a r =>
       have ha : a ∈ Ut.alls u.kids := by rw [hq]; exact List.mem_cons_self
       have hu : a ∈ u.all := by rw [Ut.all_eq]; exact List.mem_cons_of_mem _ ha
       have g1 := h2 a hu
       have g2 := h3 a hu
       have g3 := hk a ha
       simp only [Bool.or_eq_true, decide_eq_true_eq] at g1 g2
       rcases g1 with g1 | g1
       · omega
       · exact absurd g2 g1
   rw [ids_eq, hnil]
   simp
 · exact h3.1
mutual
theorem namedR_all : ∀ u : Ut, namedR u = u.all.all fun x => decide (x.kind = 0) || decide (x.id ≠ .zero)
 | .mk id kind l h w kids => by
   rw [namedR, all_mk, List.all_cons, namedRs_all kids]
   congr 1
   show _ = (decide (kind = 0) || decide (id ≠ Trip.zero))
   by_cases h1 : kind = 0 <;> by_cases h2 : id = Trip.zero <;> simp [h1, h2]
theorem namedRs_all : ∀ l : List Ut, namedRs l = (Ut.alls l).all fun x => decide (x.kind = 0) || decide (x.id ≠ .zero)
 | [] => by simp [namedRs, Ut.alls]
 | u :: r => by rw [namedRs, Ut.alls, List.all_append, namedR_all u, namedRs_all r]
end
theorem standsR_eq (u : Ut) : standsR u = standsB u := by
 unfold standsR standsB namedB
 rw [namedR_all]
theorem lin_second (t : Trip) : ∀ (n : Nat) (u : Ut), u.count ≤ n → ∀ x p r, linL t u = x :: p :: r → x ∈ p.kids ∧ p ∈ u.all
 | 0, u, hn, _, _, _, _ => by have := count_pos u; omega
 | n + 1, u, hn, x, p, r, h => by
   by_cases hi : u.id = t
   · rw [lin_self hi] at h; simp at h
   by_cases hk : linK t u.kids = []
   · rw [lin_none hi hk] at h; cases h
   have key : ∀ l : List Ut, linK t l ≠ [] → ∃ y ∈ l, linL t y = linK t l ∧ linL t y ≠ [] := by
     intro l
     induction l with
     | nil => intro h; exact absurd rfl h
     | cons y l ih =>
       intro hne
       rw [linK] at hne ⊢
       by_cases hy : (linL t y).isEmpty = true
       · rw [if_pos hy] at hne ⊢
         obtain ⟨z, hz, q⟩ := ih hne
         exact ⟨z, List.mem_cons_of_mem _ hz, q⟩
       · rw [if_neg hy]
         exact ⟨y, List.mem_cons_self, rfl, by simpa using hy⟩
   obtain ⟨y, hy, h1, h2⟩ := key u.kids hk
   rw [lin_some hi hk, ← h1] at h
   have hyc := kid_count hy
   cases hc : linL t y with
   | nil => exact absurd hc h2
   | cons a s =>
     rw [hc] at h
     cases s with
     | nil =>
       simp only [List.cons_append, List.nil_append, List.cons.injEq] at h
       obtain ⟨rfl, rfl, rfl⟩ := h
       have : y = a := by
         by_cases hyi : y.id = t
         · rw [lin_self hyi] at hc
           simp at hc
           exact hc
         · by_cases hyk : linK t y.kids = []
           · rw [lin_none hyi hyk] at hc; cases hc
           · rw [lin_some hyi hyk] at hc
             have := congrArg List.length hc
             rw [List.length_append] at this
             have h3 : 0 < (linK t y.kids).length := List.length_pos_iff.2 hyk
             simp at this
             exact absurd this hyk
       subst this
       exact ⟨hy, self_all u⟩
     | cons b s =>
       simp only [List.cons_append, List.cons.injEq] at h
       obtain ⟨rfl, rfl, _⟩ := h
       obtain ⟨g1, g2⟩ := lin_second t n y (by omega) a b s hc
       exact ⟨g1, by rw [Ut.all_eq]; exact List.mem_cons_of_mem _ (mem_alls.2 ⟨y, hy, g2⟩)⟩
theorem way_self {t : Trip} : ∀ (n : Nat) (u : Ut), u.count ≤ n → ∀ y ∈ linL t u, linL t y ≠ []
 | 0, u, hn, _, _ => by have := count_pos u; omega
 | n + 1, u, hn, y, hy => by
   by_cases hi : u.id = t
   · rw [lin_self hi, List.mem_singleton] at hy
     rw [hy, lin_self hi]
     simp
   by_cases hk : linK t u.kids = []
   · rw [lin_none hi hk] at hy; cases hy
   have hne : linL t u ≠ [] := by rw [lin_some hi hk]; simp
   rw [lin_some hi hk, List.mem_append, List.mem_singleton] at hy
   rcases hy with hy | rfl
   · obtain ⟨k, x, hx, _, _, he⟩ := linK_at hk
     rw [he] at hy
     exact way_self n x (by have := kid_count (List.mem_of_getElem? hx); omega) y hy
   · exact hne
theorem way_in {t : Trip} : ∀ (n : Nat) (u y : Ut), u.count ≤ n → u.ids.Nodup → y ∈ u.all → linL t y ≠ [] → y ∈ linL t u
 | 0, u, _, hn, _, _, _ => by have := count_pos u; omega
 | n + 1, u, y, hn, hd, hy, ht => by
   have hyt : ∃ z ∈ y.all, z.id = t := by
     cases hq : linL t y with
     | nil => exact absurd hq ht
     | cons x r =>
       obtain ⟨h1, h2⟩ := lin_head y.count (Nat.le_refl _) x r hq
       exact ⟨x, h2, h1⟩
   rw [Ut.all_eq] at hy
   rcases List.mem_cons.1 hy with rfl | hy
   · exact List.mem_of_getLast? (lin_last ht)
   obtain ⟨k, hk, hyk⟩ := mem_alls.1 hy
   obtain ⟨j, hj, rfl⟩ := List.getElem_of_mem hk
   have hx : u.kids[j]? = some u.kids[j] := List.getElem?_eq_getElem hj
   have hI := way_in n u.kids[j] y (by have := kid_count hk; omega) (nodup_kid hd hk) hyk ht
   obtain ⟨z, hz, hzt⟩ := hyt
   have hzk : z ∈ u.kids[j].all := Pa.all_trans _ (Nat.le_refl _) hyk hz
   have hd2 := hd
   rw [ids_eq, List.nodup_cons] at hd2
   have hi : u.id ≠ t := fun e => hd2.1 (by
     rw [e, ← hzt]
     exact List.mem_map_of_mem (mem_alls.2 ⟨_, hk, hzk⟩))
   have hno : linK t (u.kids.take j) = [] := linK_none_of fun v hv e => by
     obtain ⟨w, hw, hvw⟩ := mem_alls.1 hv
     obtain ⟨i, hi', hwi⟩ := List.mem_take_iff_getElem.1 hw
     exact nodup_apart hd2.2 (i := i) (j := j) (List.getElem?_eq_some_iff.2 ⟨by omega, hwi⟩) hx (by omega) v hvw z hzk (by rw [e, hzt])
   have hne : linL t u.kids[j] ≠ [] := fun e => by rw [e] at hI; cases hI
   have hhit := linK_hit hx hno hne
   rw [lin_some hi (by rw [hhit]; exact hne), hhit]
   exact List.mem_append_left _ hI
theorem way_iff {u : Ut} {id t : Trip} (hd : u.ids.Nodup) (hid : linL id u ≠ []) : id ∈ (linL t u).map Ut.id ↔ foundB t (findU id u) = true := by
 cases hq : linL id u with
 | nil => exact absurd hq hid
 | cons y r =>
   obtain ⟨h1, h2⟩ := lin_head u.count (Nat.le_refl _) y r hq
   have hf : findU id u = y := by unfold findU; rw [hq]
   rw [hf]
   constructor
   · intro h
     obtain ⟨z, hz, hzi⟩ := List.mem_map.1 h
     have hne : linL t u ≠ [] := fun e => by rw [e] at hz; cases hz
     have hza : z ∈ u.all := by
       obtain ⟨r', hr', hch, _⟩ := lin_chain t u hne
       exact chain_in hch z (by rw [← hr']; simpa using hz)
     have : z = y := ids_inj hd hza h2 (by rw [hzi, h1])
     subst this
     exact found_of (way_self _ u (Nat.le_refl _) z hz)
   · intro h
     have hne : linL t y ≠ [] := fun e => by unfold foundB at h; rw [e] at h; cases h
     rw [← h1]
     exact List.mem_map_of_mem (way_in _ u y (Nat.le_refl _) hd h2 hne)
def withinB (u : Ut) (x id : Trip) : Bool := decide (x = id) || decide (id ∈ ancL x u)
theorem within_eq {u : Ut} {x id : Trip} (hx : linL x u ≠ []) : withinB u x id = decide (id ∈ (linL x u).map Ut.id) := by
 unfold withinB ancL
 cases hq : linL x u with
 | nil => exact absurd hq hx
 | cons y r =>
   obtain ⟨h1, _⟩ := lin_head u.count (Nat.le_refl _) y r hq
   simp only [List.drop_succ_cons, List.drop_zero, List.map_cons, List.mem_cons, h1]
   by_cases h : x = id
   · simp [h]
   · by_cases h2 : id ∈ r.map Ut.id
     · rw [decide_eq_false h, decide_eq_true h2, Bool.false_or, decide_eq_true (Or.inr h2)]
     · rw [decide_eq_false h, decide_eq_false h2, Bool.false_or, decide_eq_false (fun e => e.elim (fun e => h e.symm) h2)]
noncomputable def moveA (u : Ut) (x : It) : Trip × Int × Int :=
 if 0 ≤ x.z ∧ x.z ≤ 3 then (if (oneA u x.p).2 = 0 then (if (insA u x.q x.z).2.2 = 0 then (if withinB u (insA u x.q x.z).1 (oneA u x.p).1 = true then (Trip.zero, 0, 9) else
   ((insA u x.q x.z).1, (if (parV (oneA u x.p).1 u).1 = (insA u x.q x.z).1 ∧ (parV (oneA u x.p).1 u).2.1 < (insA u x.q x.z).2.1 then (insA u x.q x.z).2.1 - 1 else (insA u x.q x.z).2.1), 0))
   else (Trip.zero, 0, (insA u x.q x.z).2.2)) else (Trip.zero, 0, (oneA u x.p).2)) else (Trip.zero, 0, 1)
def refG (u : Ut) (z : Int) (id tu : Trip) : Trip × Int × Int :=
 if id = u.id ∨ (2 ≤ z ∧ tu = u.id) ∨ (foundB tu (findU id u) = true ∧ tu ≠ id) ∨ (tu = id ∧ ¬ 2 ≤ z) then (Trip.zero, 0, 9) else
 if tu = id then ((parV id u).1, (parV id u).2.1, 0) else
 ((whereF u z tu).1, (if (whereF u z tu).1 = (parV id u).1 ∧ (parV id u).2.1 < (whereF u z tu).2.1 then (whereF u z tu).2.1 - 1 else (whereF u z tu).2.1), 0)
noncomputable def goesM (u : Ut) (x : It) : Trip × Int × Int :=
 if 0 ≤ x.z ∧ x.z ≤ 3 then (if (oneA u x.p).2 = 0 then (if (oneA u x.q).2 = 0 then refG u x.z (oneA u x.p).1 (oneA u x.q).1 else (Trip.zero, 0, (oneA u x.q).2)) else (Trip.zero, 0, (oneA u x.p).2)) else (Trip.zero, 0, 1)
theorem ref_move {u : Ut} {z : Int} {id tu : Trip} (hd : u.ids.Nodup) (hz : 0 ≤ z ∧ z ≤ 3) (hid : linL id u ≠ []) (hto : linL tu u ≠ []) :
   refG u z id tu = if (whereF u z tu).2.2 = 0 then (if withinB u (whereF u z tu).1 id = true then (Trip.zero, 0, 9) else
   ((whereF u z tu).1, (if (parV id u).1 = (whereF u z tu).1 ∧ (parV id u).2.1 < (whereF u z tu).2.1 then (whereF u z tu).2.1 - 1 else (whereF u z tu).2.1), 0)) else (Trip.zero, 0, (whereF u z tu).2.2) := by
 have hroot : ∀ {t : Trip}, linL t u ≠ [] → u.id ∈ (linL t u).map Ut.id := fun h => List.mem_map_of_mem (List.mem_of_getLast? (lin_last h))
 by_cases hb : 2 ≤ z
 · by_cases hr : tu = u.id
   · have : whereF u z tu = (Trip.zero, 0, 9) := by unfold whereF; rw [if_neg (by omega), if_neg (by omega), if_pos hr]
     rw [this, if_neg (by decide)]
     unfold refG
     rw [if_pos (Or.inr (Or.inl ⟨hb, hr⟩))]
   · have hw : whereF u z tu = ((parV tu u).1, (parV tu u).2.1 + (if z = 2 then 1 else 0), 0) := by unfold whereF; rw [if_neg (by omega), if_neg (by omega), if_neg hr]
     rw [hw, if_pos rfl]
     dsimp only
     cases hq : linL tu u with
     | nil => exact absurd hq hto
     | cons x l =>
       obtain ⟨hx1, hx2⟩ := lin_head u.count (Nat.le_refl _) x l hq
       cases l with
       | nil =>
         have h1 := lin_last hto
         rw [hq] at h1
         simp only [List.getLast?_singleton, Option.some.injEq] at h1
         rw [h1] at hx1
         exact absurd hx1.symm hr
       | cons p l =>
         have hup := lin_up _ u (Nat.le_refl _) hd x p l hq
         have hpv : (parV tu u).1 = p.id := by unfold parV; rw [hq]; rfl
         have hin : withinB u (parV tu u).1 id = decide (id ∈ (p :: l).map Ut.id) := by rw [hpv, within_eq (by rw [hup]; simp), hup]
         have hnot : x.id ∉ (p :: l).map Ut.id := fun h => by
           obtain ⟨y, hy, hye⟩ := List.mem_map.1 h
           have hya : y ∈ u.all := by
             obtain ⟨r', hr', hch, _⟩ := lin_chain tu u hto
             exact chain_in hch y (by rw [← hr', hq]; simp only [List.mem_reverse]; exact List.mem_cons_of_mem _ hy)
           have he : y = x := ids_inj hd hya hx2 hye
           subst he
           rw [← hup] at hy
           have h5 := way_self _ u (Nat.le_refl _) y hy
           have h6 := lin_second tu _ u (Nat.le_refl _) y p l hq
           have h7 : p.count ≤ y.count := by
             cases hq2 : linL p.id y with
             | nil => exact absurd hq2 h5
             | cons a b =>
               obtain ⟨g1, g2⟩ := lin_head y.count (Nat.le_refl _) a b hq2
               have : a = p := ids_inj hd (Pa.all_trans _ (Nat.le_refl _) hx2 g2) h6.2 g1
               subst this
               exact Pu.all_count g2
           have := kid_count h6.1
           omega
         rw [hin]
         have hif := way_iff (t := tu) hd hid
         rw [hq] at hif
         have hpr : u.id ∈ (p :: l).map Ut.id := by
           have := hroot (t := p.id) (by rw [hup]; simp)
           rwa [hup] at this
         unfold refG
         by_cases hwi : id ∈ (p :: l).map Ut.id
         · rw [decide_eq_true hwi, if_pos rfl, if_pos]
           right; right; left
           refine ⟨hif.1 (by rw [List.map_cons]; exact List.mem_cons_of_mem _ hwi), fun e => ?_⟩
           rw [e] at hx1
           rw [hx1] at hnot
           exact hnot hwi
         · rw [decide_eq_false hwi, if_neg Bool.false_ne_true, if_neg]
           · by_cases he : tu = id
             · rw [if_pos he, ← he]
               by_cases h2 : z = 2
               · rw [if_pos h2, if_pos ⟨rfl, by omega⟩]
                 congr 2
                 omega
               · rw [if_neg h2, if_neg (by omega)]
                 congr 2
                 omega
             · rw [if_neg he, hw]
               dsimp only
               congr 2
               by_cases h1 : (parV tu u).1 = (parV id u).1
               · simp [h1]
               · simp [h1, Ne.symm h1]
           · rintro (h | ⟨_, h⟩ | ⟨h, hne⟩ | ⟨h, h2⟩)
             · rw [h] at hwi; exact hwi hpr
             · exact hr h
             · have := hif.2 h
               rw [List.map_cons, List.mem_cons] at this
               rcases this with h | h
               · exact hne (by rw [h, hx1])
               · exact hwi h
             · exact h2 hb
 · have hw1 : (whereF u z tu).1 = tu ∧ (whereF u z tu).2.2 = 0 := by
     unfold whereF
     by_cases z0 : z = 0
     · rw [if_pos z0]; exact ⟨rfl, rfl⟩
     · rw [if_neg z0, if_pos (by omega)]; exact ⟨rfl, rfl⟩
   rw [hw1.2, if_pos rfl, hw1.1, within_eq hto]
   have hif := way_iff (t := tu) hd hid
   unfold refG
   by_cases hwi : id ∈ (linL tu u).map Ut.id
   · rw [decide_eq_true hwi, if_pos rfl, if_pos]
     by_cases he : tu = id
     · exact Or.inr (Or.inr (Or.inr ⟨he, hb⟩))
     · exact Or.inr (Or.inr (Or.inl ⟨hif.1 hwi, he⟩))
   · rw [decide_eq_false hwi, if_neg Bool.false_ne_true, if_neg]
     · have he : tu ≠ id := fun e => by
         subst e
         cases hq : linL tu u with
         | nil => exact absurd hq hto
         | cons x l =>
           obtain ⟨hx1, _⟩ := lin_head u.count (Nat.le_refl _) x l hq
           rw [hq, List.map_cons, hx1] at hwi
           exact hwi List.mem_cons_self
       rw [if_neg he, hw1.1]
       congr 2
       by_cases h1 : tu = (parV id u).1
       · simp [← h1]
       · simp [h1, Ne.symm h1]
     · rintro (h | ⟨h, _⟩ | ⟨h, hne⟩ | ⟨h, h2⟩)
       · rw [h] at hwi; exact hwi (hroot hto)
       · exact hb h
       · exact hwi (hif.2 h)
       · subst h
         cases hq : linL tu u with
         | nil => exact absurd hq hto
         | cons x l =>
           obtain ⟨hx1, _⟩ := lin_head u.count (Nat.le_refl _) x l hq
           rw [hq, List.map_cons, hx1] at hwi
           exact hwi List.mem_cons_self
theorem move_goes {u : Ut} {x : It} (hd : u.ids.Nodup) : moveA u x = goesM u x := by
 unfold moveA goesM
 by_cases hz : 0 ≤ x.z ∧ x.z ≤ 3
 · rw [if_pos hz, if_pos hz]
   by_cases h0 : (oneA u x.p).2 = 0
   · rw [if_pos h0, if_pos h0]
     rw [ins_where]
     unfold whereA
     rw [if_pos hz]
     by_cases h1 : (oneA u x.q).2 = 0
     · rw [if_pos h1, if_pos h1, ref_move hd hz (one_in h0) (one_in h1)]
     · rw [if_neg h1, if_neg h1, if_neg h1]
   · rw [if_neg h0, if_neg h0]
 · rw [if_neg hz, if_neg hz]
end Go.Proofs.YtiohjjgncbhimaaDoor.Pk
