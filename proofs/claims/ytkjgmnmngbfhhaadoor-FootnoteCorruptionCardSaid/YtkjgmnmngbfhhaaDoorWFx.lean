/-
  What one change of a tree without findings does to its findings. The law of corruption.
-/
import Derived.Test.YtkjgmnmngbfhhaaDoorWFv
namespace Go.Proofs.YtkjgmnmngbfhhaaDoor.Pn
open Go Go.Pv Go.RowKit Go.Proofs.YtkjgmnmngbfhhaaDoor.Pb
set_option linter.unusedSimpArgs false
open Lab Lcs Go.Proofs.YtkjgmnmngbfhhaaDoor Go.Proofs.YtkjgmnmngbfhhaaDoor.Pu
set_option maxRecDepth 10000
set_option maxHeartbeats 8000000
theorem labL_fm : ∀ (n : Nat) (l : List Wd), l.length = n → labL l = l.filterMap fun a => if ancB a.text then some (restS a.text) else none := by
 intro n
 induction n with
 | zero => intro l hl; obtain rfl := List.eq_nil_of_length_eq_zero hl; rfl
 | succ n ih =>
   intro L hL
   obtain ⟨r, x, rfl⟩ : ∃ r x, L = r ++ [x] := ⟨L.dropLast, L.getLast (by intro h; subst h; simp at hL), (List.dropLast_concat_getLast _).symm⟩
   rw [labL_snoc, List.filterMap_append, ih r (by simpa using hL)]
   congr 1
   cases h : ancB x.text <;> simp [h]
theorem labL_app (a b : List Wd) : labL (a ++ b) = labL a ++ labL b := by
 rw [labL_fm _ _ rfl, labL_fm _ a rfl, labL_fm _ b rfl, List.filterMap_append]
theorem note_uniq {u : Ut} (hv : ValU u) {k j : Nat} {x y : Ut} (hx : u.kids[k]? = some x) (hy : u.kids[j]? = some y) (h7 : x.kind = 7) (g7 : y.kind = 7) (he : x.label = y.label) : k = j := by
 obtain ⟨i, h1, h2⟩ := hv.note hx h7
 obtain ⟨m, h3, h4⟩ := hv.note hy g7
 rw [← he] at h4
 have e1 := idx_nodup hv.lnd h2
 have e2 := idx_nodup hv.lnd h4
 have : i = m := by omega
 subst this
 rw [h1] at h3
 exact Option.some.inj h3
theorem isNote_iff {s : Str} {x : Ut} : isNote s x = true ↔ x.kind = 7 ∧ x.label = s := by
 unfold isNote
 simp
theorem isNote_f {s : Str} {x : Ut} (h : ¬ (x.kind = 7 ∧ x.label = s)) : isNote s x = false := by
 cases hn : isNote s x
 · rfl
 · exact absurd (isNote_iff.1 hn) h
theorem noteO_kid {u : Ut} (hv : ValU u) {k : Nat} {x : Ut} (hx : u.kids[k]? = some x) (h7 : x.kind = 7) : noteO u.kids x.label = some k := by
 refine noteO_hit hx (isNote_iff.2 ⟨h7, rfl⟩) fun y hy => isNote_f fun hc => ?_
 obtain ⟨j, hj, hyj⟩ := at_take hy
 have := note_uniq hv hx hyj h7 hc.1 hc.2.symm
 omega
theorem noteO_lab {u : Ut} (hv : ValU u) {s : Str} {k : Nat} (h : noteO u.kids s = some k) : s ∈ labL u.words := by
 obtain ⟨x, hx, hn, _⟩ := noteO_some h
 obtain ⟨h7, rfl⟩ := isNote_iff.1 hn
 obtain ⟨i, _, hi⟩ := hv.note hx h7
 exact List.mem_of_getElem? hi
theorem lab_noteO {u : Ut} (hv : ValU u) {s : Str} (h : s ∈ labL u.words) : ∃ k, noteO u.kids s = some k := by
 obtain ⟨i, hi⟩ := at_mem h
 obtain ⟨n, _, hn⟩ := hv.call i s hi
 exact ⟨n, hn⟩
theorem bad_nil2 {u : Ut} : ∀ (l : List (Nat × Str)) (seen : List Str), (∀ a ∈ l, a.2 ∉ seen) → (l.map Prod.snd).Nodup → (∀ a ∈ l, ∃ k, noteO u.kids a.2 = some k) → badL u seen l = []
 | [], _, _, _, _ => rfl
 | a :: l, seen, hd, hn, hall => by
   simp only [badL, List.append_eq_nil_iff]
   rw [List.map_cons, List.nodup_cons] at hn
   constructor
   · have hin : inB a.2 seen = false := by
       cases h : inB a.2 seen
       · rfl
       · exact absurd (inB_mem.1 h) (hd a List.mem_cons_self)
     obtain ⟨k, hk⟩ := hall a List.mem_cons_self
     unfold badA
     rw [hin, hk]
     rfl
   · refine bad_nil2 l _ (fun b hb hc => ?_) hn.2 fun b hb => hall b (List.mem_cons_of_mem _ hb)
     rcases List.mem_append.1 hc with hc | hc
     · exact hd b (List.mem_cons_of_mem _ hb) hc
     · rw [List.mem_singleton] at hc
       exact hn.1 (by rw [← hc]; exact List.mem_map.2 ⟨b, hb, rfl⟩)
theorem lost_one {c : List Nat} {l : List Ut} {i : Nat} {x : Ut} (hx : l[i]? = some x) (h7 : x.kind = 7) (hc : i ∉ c) (h : ∀ (j : Nat) (y : Ut), l[j]? = some y → y.kind = 7 → j ≠ i → j ∈ c) : lostL c 0 l = [⟨i, x.id, 7, x.label⟩] := by
 obtain ⟨hlt, hxe⟩ := List.getElem?_eq_some_iff.1 hx
 have hL : l = l.take i ++ x :: l.drop (i + 1) := by
   rw [← hxe, ← List.drop_eq_getElem_cons hlt, List.take_append_drop]
 have h1 : lostL c 0 (l.take i) = [] := lost_none fun j y hy h7 => by
   have hj := (List.getElem?_eq_some_iff.1 hy).1
   rw [List.length_take] at hj
   rw [List.getElem?_take_of_lt (by omega)] at hy
   have := h j y hy h7 (by omega)
   rwa [Nat.zero_add]
 have h2 : lostL c (i + 1) (l.drop (i + 1)) = [] := lost_none fun j y hy h7 => by
   rw [List.getElem?_drop] at hy
   exact h _ y hy h7 (by omega)
 have hli : (l.take i).length = i := by rw [List.length_take]; omega
 rw [hL, lostL_app, h1, List.nil_append, hli, Nat.zero_add]
 simp only [lostL]
 rw [h2, List.append_nil]
 unfold lostA
 rw [if_pos ⟨h7, hc⟩]
theorem sub_nil {u : Ut} (h : fdsL u.all = []) {l : List Ut} (hl : ∀ x ∈ l, x ∈ u.kids) : fdsL (Ut.alls l) = [] := by
 unfold fdsL at h ⊢
 rw [List.flatMap_eq_nil_iff] at h ⊢
 intro y hy
 obtain ⟨z, hz, hyz⟩ := mem_alls.1 hy
 exact h y (kid_all (hl z hz) hyz)
def addW (u : Ut) (a : Wd) : Ut := .mk u.id u.kind u.label u.head (u.words ++ [a]) u.kids
theorem add_fds {u : Ut} (h : fdsL u.all = []) {a : Wd} (hb : ancB a.text = true) : fdsL (addW u a).all = [⟨u.words.length, u.id, if inB (restS a.text) (labL u.words) then 5 else 4, restS a.text⟩] := by
 have hmem : u ∈ u.all := by rw [Ut.all_eq]; exact List.mem_cons_self
 have hv := val_all h u hmem
 have hf := (per_nil h u hmem).1
 have hbad : ∀ (l : List (Nat × Str)) (seen : List Str), badL (addW u a) seen l = badL u seen l := by
   intro l
   induction l with
   | nil => intro _; rfl
   | cons b l ih => intro seen; simp only [badL]; rw [ih]; rfl
 have hanc : ancL (addW u a).words = ancL u.words ++ [(u.words.length, restS a.text)] := by
   show ancL (u.words ++ [a]) = _
   rw [ancL_snoc, hb]
   rfl
 rw [fdsL_all, show fdsL (Ut.alls (addW u a).kids) = [] from sub_nil h fun x hx => hx, List.append_nil]
 unfold perC
 have hl : lostN (addW u a) = [] := lost_none fun k x hx h7 => by
   rw [Nat.zero_add]
   refine (lost_iff hx).2 ⟨inB_mem.2 ?_, noteO_kid hv hx h7⟩
   show x.label ∈ labL (u.words ++ [a])
   rw [labL_app]
   exact List.mem_append_left _ (noteO_lab hv (noteO_kid hv hx h7))
 rw [hl, List.append_nil]
 show badL (addW u a) [] (ancL (addW u a).words) = _
 rw [hbad, hanc, badL_snoc, show badL u [] (ancL u.words) = [] from hf, List.nil_append, show (ancL u.words).map Prod.snd = labL u.words from rfl]
 unfold badA
 dsimp only
 cases hin : inB (restS a.text) (labL u.words) with
 | true => rfl
 | false =>
   cases hn : noteO u.kids (restS a.text) with
   | none => rfl
   | some k =>
     rw [inB_mem.2 (noteO_lab hv hn)] at hin
     cases hin
def cutW (u : Ut) (n : Nat) : Ut := .mk u.id u.kind u.label u.head (u.words.take n ++ u.words.drop (n + 1)) u.kids
theorem split_at {α : Type} {l : List α} {n : Nat} {a : α} (h : l[n]? = some a) : l = l.take n ++ a :: l.drop (n + 1) := by
 obtain ⟨hlt, he⟩ := List.getElem?_eq_some_iff.1 h
 rw [← he, ← List.drop_eq_getElem_cons hlt, List.take_append_drop]
theorem cutW_fds {u : Ut} (h : fdsL u.all = []) {n : Nat} {a : Wd} (ha : u.words[n]? = some a) (hb : ancB a.text = true) : ∃ (k : Nat) (x : Ut), u.kids[k]? = some x ∧ noteO u.kids (restS a.text) = some k ∧ fdsL (cutW u n).all = [⟨k, x.id, 7, restS a.text⟩] := by
 have hmem : u ∈ u.all := by rw [Ut.all_eq]; exact List.mem_cons_self
 have hv := val_all h u hmem
 have hlab : labL u.words = labL (u.words.take n) ++ restS a.text :: labL (u.words.drop (n + 1)) := by
   conv => lhs; rw [split_at ha, List.append_cons, labL_app, labL_snoc, hb]
   simp
 have hcw : labL (cutW u n).words = labL (u.words.take n) ++ labL (u.words.drop (n + 1)) := labL_app _ _
 have hnd := hv.lnd
 rw [hlab] at hnd
 have hsub : ∀ t ∈ labL (cutW u n).words, t ∈ labL u.words ∧ t ≠ restS a.text := fun t ht => by
   rw [hcw] at ht
   rw [hlab]
   obtain ⟨g1, g2, g3⟩ := List.nodup_append.1 hnd
   rcases List.mem_append.1 ht with ht | ht
   · exact ⟨List.mem_append_left _ ht, g3 t ht _ List.mem_cons_self⟩
   · exact ⟨List.mem_append_right _ (List.mem_cons_of_mem _ ht), fun he => (List.nodup_cons.1 g2).1 (by rw [← he]; exact ht)⟩
 have hrev : ∀ t ∈ labL u.words, t ≠ restS a.text → t ∈ labL (cutW u n).words := fun t ht hne => by
   rw [hlab] at ht
   rw [hcw]
   rcases List.mem_append.1 ht with ht | ht
   · exact List.mem_append_left _ ht
   · rcases List.mem_cons.1 ht with ht | ht
     · exact absurd ht hne
     · exact List.mem_append_right _ ht
 have hcn : (labL (cutW u n).words).Nodup := by
   rw [hcw]
   refine hnd.sublist ?_
   exact List.Sublist.append (List.Sublist.refl _) (List.sublist_cons_self _ _)
 obtain ⟨k, hk⟩ := lab_noteO hv (s := restS a.text) (by rw [hlab]; simp)
 obtain ⟨x, hx, hxn, _⟩ := noteO_some hk
 obtain ⟨h7, hxl⟩ := isNote_iff.1 hxn
 refine ⟨k, x, hx, hk, ?_⟩
 rw [fdsL_all, show fdsL (Ut.alls (cutW u n).kids) = [] from sub_nil h fun x hx => hx, List.append_nil]
 unfold perC
 have hf : faultN (cutW u n) = [] := bad_nil2 _ [] (fun _ _ hc => by cases hc) hcn fun p hp => lab_noteO hv (hsub p.2 (List.mem_map.2 ⟨p, hp, rfl⟩)).1
 rw [hf, List.nil_append, ← hxl]
 refine lost_one (l := (cutW u n).kids) hx h7 (fun hc => ?_) fun j y hy hy7 hjk => ?_
 · have := ((lost_iff (u := cutW u n) hx).1 hc).1
   exact (hsub _ (inB_mem.1 this)).2 hxl
 · refine (lost_iff (u := cutW u n) hy).2 ⟨inB_mem.2 (hrev _ (noteO_lab hv (noteO_kid hv hy hy7)) fun he => hjk ?_), noteO_kid hv hy hy7⟩
   exact note_uniq hv hy hx hy7 h7 (by rw [he, hxl])
def cutK (u : Ut) (n : Nat) : Ut := .mk u.id u.kind u.label u.head u.words (u.kids.take n ++ u.kids.drop (n + 1))
theorem cutK_at (l : List Ut) (n j : Nat) : (l.take n ++ l.drop (n + 1))[j]? = if j < n then l[j]? else l[j + 1]? := by
 rw [← List.eraseIdx_eq_take_drop_succ, List.getElem?_eraseIdx]
theorem cutK_fds {u : Ut} (h : fdsL u.all = []) {n : Nat} {x : Ut} (hx : u.kids[n]? = some x) (h7 : x.kind = 7) : ∃ j : Nat, fdsL (cutK u n).all = [⟨j, u.id, 4, x.label⟩] := by
 have hmem : u ∈ u.all := by rw [Ut.all_eq]; exact List.mem_cons_self
 have hv := val_all h u hmem
 have hback : ∀ (j : Nat) (y : Ut), (cutK u n).kids[j]? = some y → ∃ k : Nat, u.kids[k]? = some y ∧ k ≠ n ∧ k = if j < n then j else j + 1 := fun j y hy => by
   rw [show (cutK u n).kids = u.kids.take n ++ u.kids.drop (n + 1) from rfl, cutK_at] at hy
   split at hy
   · rename_i hj; exact ⟨j, hy, by omega, by rw [if_pos hj]⟩
   · rename_i hj; exact ⟨j + 1, hy, by omega, by rw [if_neg hj]⟩
 have hmemK : ∀ (k : Nat) (y : Ut), u.kids[k]? = some y → k ≠ n → y ∈ (cutK u n).kids := fun k y hy hne => by
   show y ∈ u.kids.take n ++ u.kids.drop (n + 1)
   rcases Nat.lt_or_ge k n with hlt | hge
   · refine List.mem_append_left _ (List.mem_of_getElem? (i := k) ?_)
     rw [List.getElem?_take_of_lt hlt]; exact hy
   · refine List.mem_append_right _ (List.mem_of_getElem? (i := k - (n + 1)) ?_)
     rw [List.getElem?_drop, show n + 1 + (k - (n + 1)) = k by omega]; exact hy
 have hsome : ∀ t ∈ labL u.words, t ≠ x.label → ∃ k, noteO (cutK u n).kids t = some k := fun t ht hne => by
   obtain ⟨k, hk⟩ := lab_noteO hv ht
   obtain ⟨y, hy, hyn, _⟩ := noteO_some hk
   obtain ⟨g7, gl⟩ := isNote_iff.1 hyn
   cases hno : noteO (cutK u n).kids t with
   | some j => exact ⟨j, rfl⟩
   | none =>
     have := noteO_none hno y (hmemK k y hy fun he => by
       subst he
       rw [hx] at hy
       exact hne (by rw [← gl, ← Option.some.inj hy]))
     rw [hyn] at this
     cases this
 have hnone : noteO (cutK u n).kids x.label = none := by
   cases hno : noteO (cutK u n).kids x.label with
   | none => rfl
   | some j =>
     obtain ⟨y, hy, hyn, _⟩ := noteO_some hno
     obtain ⟨g7, gl⟩ := isNote_iff.1 hyn
     obtain ⟨k, hk, hkn, _⟩ := hback j y hy
     exact absurd (note_uniq hv hk hx g7 h7 gl) hkn
 obtain ⟨p, hp, hpl⟩ := List.mem_map.1 (noteO_lab hv (noteO_kid hv hx h7))
 obtain ⟨i, hi⟩ := at_mem hp
 have hanc := split_at hi
 have hlnd : ((ancL u.words).map Prod.snd).Nodup := hv.lnd
 rw [hanc, List.map_append, List.map_cons] at hlnd
 obtain ⟨g1, g2, g3⟩ := List.nodup_append.1 hlnd
 rw [List.nodup_cons] at g2
 have hlm : ∀ q ∈ ancL u.words, q.2 ∈ labL u.words := fun q hq => List.mem_map.2 ⟨q, hq, rfl⟩
 refine ⟨p.1, ?_⟩
 rw [fdsL_all, sub_nil h (l := (cutK u n).kids) fun y hy => ?_, List.append_nil]
 · unfold perC
   have hl : lostN (cutK u n) = [] := lost_none fun j y hy hy7 => by
     rw [Nat.zero_add]
     obtain ⟨k, hk, hkn, hkj⟩ := hback j y hy
     refine (lost_iff (u := cutK u n) hy).2 ⟨inB_mem.2 (noteO_lab hv (noteO_kid hv hk hy7)), noteO_hit hy (isNote_iff.2 ⟨hy7, rfl⟩) fun z hz => isNote_f fun hc => ?_⟩
     obtain ⟨m, hm, hzm⟩ := at_take hz
     obtain ⟨k2, hk2, _, hkj2⟩ := hback m z hzm
     have := note_uniq hv hk hk2 hy7 hc.1 hc.2.symm
     split at hkj <;> split at hkj2 <;> omega
   rw [hl, List.append_nil]
   show badL (cutK u n) [] (ancL u.words) = _
   rw [hanc, badL_app, List.nil_append]
   rw [bad_nil2 ((ancL u.words).take i) [] (fun _ _ hc => by cases hc) g1 fun q hq => hsome q.2 (hlm q (List.mem_of_mem_take hq)) fun he => g3 q.2 (List.mem_map.2 ⟨q, hq, rfl⟩) p.2 List.mem_cons_self (by rw [he, hpl]), List.nil_append]
   simp only [badL]
   rw [bad_nil2 ((ancL u.words).drop (i + 1)) _ (fun q hq hc => ?_) g2.2 fun q hq => hsome q.2 (hlm q (List.mem_of_mem_drop hq)) fun he => g2.1 (by rw [hpl, ← he]; exact List.mem_map.2 ⟨q, hq, rfl⟩), List.append_nil]
   · unfold badA
     have hin : inB p.2 (((ancL u.words).take i).map Prod.snd) = false := by
       cases hb : inB p.2 (((ancL u.words).take i).map Prod.snd)
       · rfl
       · exact absurd rfl (g3 p.2 (inB_mem.1 hb) p.2 List.mem_cons_self)
     rw [hin, hpl, hnone]
     rfl
   · rcases List.mem_append.1 hc with hc | hc
     · exact g3 q.2 hc q.2 (List.mem_cons_of_mem _ (List.mem_map.2 ⟨q, hq, rfl⟩)) rfl
     · rw [List.mem_singleton] at hc
       exact g2.1 (by rw [← hc]; exact List.mem_map.2 ⟨q, hq, rfl⟩)
 · obtain ⟨j, hj⟩ := at_mem hy
   obtain ⟨k, hk, _, _⟩ := hback j y hj
   exact List.mem_of_getElem? hk
end Go.Proofs.YtkjgmnmngbfhhaaDoor.Pn
namespace Go.Proofs.YtkjgmnmngbfhhaaDoor.Pn
open Go Go.Pv Go.RowKit Go.Proofs.YtkjgmnmngbfhhaaDoor.Pb
set_option linter.unusedSimpArgs false
open Lab Lcs Go.Proofs.YtkjgmnmngbfhhaaDoor Go.Proofs.YtkjgmnmngbfhhaaDoor.Pu
set_option maxRecDepth 10000
set_option maxHeartbeats 16000000
theorem PCB.frz {P : Program} {X : Env} {f : FuncId} {args args' res : List PV} {B B' B2 : List Blk} (r : Nat) {e : TypeId} {sz g : Nat} {es : List PV} {is : List IV} (hb : B[r]? = some (.row e sz g es)) (hes : imms es = some is) {i : IV} (hi : ILe (.sl sz is) i)
   (hE : fzL r g i args = args') (hB : (B.map (fzB r g i)).set r (.dead g) = B') (h : PCB P X f args' B' res B2) : PCB P X f args B res B2 := by
 obtain ⟨h1, h2, h3⟩ := h
 have hlen : B'.length = B.length := by rw [← hB]; simp
 refine ⟨h1, by rw [h2, hlen], fun Γ k w vs hΓ hI hT => ?_⟩
 let Γ' : Ctx := ⟨Γ.N, Γ.w0, Γ.X, Γ.Q0, Γ.eqT, Γ.F, w, k, B.length⟩
 have hI' : Inv Γ' k B w := ⟨hI.below, hI.lt, hI.le, hI.qs, hI.rr, hI.gl, hI.blk, hI.sep, hI.inj, ⟨fun b hb => ⟨(hI.kp.fr b hb).1, rfl, (hI.kp.fr b hb).2.2⟩, Ext.refl _ _ _⟩, hI.nf⟩
 obtain ⟨_, k', hJ, hT'⟩ := γ_frz (Γ := Γ') r hb hes hi hE hB (a := ⟨vs.toArray, []⟩) (w := w) ⟨rfl, k, hI', by simpa using hT⟩
 refine (h3 Γ' k' w vs hΓ hJ (by simpa using hT')).mono ?_
 rintro x w' ⟨v, k2, e1, hE2, hK, hr⟩
 rw [hlen] at hE2 hr
 have hx : Ext k B.length w k' B.length w := by have := hJ.kp.ext; rw [hlen] at this; exact this
 exact ⟨v, k2, e1, hx.trans hE2, ⟨hK.below, hK.lt, hK.le, hK.qs, hK.rr, hK.gl, hK.blk, hK.sep, hK.inj, ⟨fun b hb => ⟨(hK.kp.fr b hb).1, (hK.kp.fr b hb).2.1.trans (hI.kp.fr b hb).2.1, (hK.kp.fr b hb).2.2⟩, hI.kp.ext.trans hK.kp.ext⟩, hK.nf⟩, hr⟩
theorem imms_mapI : ∀ is : List IV, imms (is.map .imm) = some is
 | [] => rfl
 | i :: is => by simp only [List.map_cons, imms, imms_mapI is]
def calledN (u : Ut) (s : Str) : Nat := (noteO u.kids s).getD u.kids.length
theorem called_pc (u : Ut) (s : Str) (hl : u.kids.length ≤ 100000) : PC Tryd.prog env0 30 [uv u, .str s] [.int .i64 (calledN u s : Nat)] := by
 have hue := uv_eq u
 have hkl : (u.kids.map uv).length = u.kids.length := List.length_map _
 rw [hue]
 refine PC.of_va (T := tbw) eqw_ok tbw_ok rfl mixed Tryd.func30 rfl rfl (Nat.le_of_ble_eq_true rfl) ?_; intro Γ C WK LP fin h0 hW hC hB hR hLP hfin
 (try (conv => whnf)); (repeat ((first | refine qT ?_ | refine qF ?_ | refine qO ?_ | (with_reducible intro z hz); (first | (replace hz := hz (by omega); subst hz) | subst hz)); (try (conv => whnf))))
 refine hLP _ _ _ Nat (fun k => ⟨[(1, .imm (.str s)), (2, .ptr 0 1 0), (5, .imm (.int .i64 (k : Nat)))], [.box 1 [.imm (.int .i64 u.id.x), .imm (.int .i64 u.id.y), .imm (.int .i64 u.id.z), .imm (.int .i64 u.kind), .imm (.str u.label), .imm (.sl 4 (u.head.map wdv)), .imm (.sl 4 (u.words.map wdv)), .imm (.sl 8 (u.kids.map uv))]]⟩) (fun k => k ≤ u.kids.length ∧ ∀ y ∈ u.kids.take k, isNote s y = false) (fun k => u.kids.length - k) 0 ⟨Nat.zero_le _, fun y hy => by simp at hy⟩ (qSL 1 rfl rfl) ?_
 rintro k ⟨hk, hp⟩
 have hho := Nat.lt_or_ge k u.kids.length
 cases hho with
 | inl hlt =>
   obtain ⟨x, hx⟩ : ∃ x, u.kids[k]? = some x := ⟨u.kids[k], List.getElem?_eq_getElem hlt⟩
   have hux := uv_eq x
   have hnx : isNote s x = false → ∀ y ∈ u.kids.take (k + 1), isNote s y = false := fun hf y hy => by
     rw [take_at hx] at hy
     rcases List.mem_append.1 hy with hy | hy
     · exact hp y hy
     · rw [List.mem_singleton] at hy; subst hy; exact hf
   by_cases h7 : x.kind = 7
   · by_cases hls : x.label = s
     · have hc : calledN u s = k := by
         unfold calledN
         rw [noteO_hit hx (isNote_iff.2 ⟨h7, hls⟩) hp]
         rfl
       rw [hc] at hfin
       (try (conv => whnf)); (repeat ((first | refine qT ?_ | refine qF ?_ | refine qO ?_ | (with_reducible intro z hz); (first | (replace hz := hz (by omega); subst hz) | subst hz)); (try (conv => whnf))))
       refine Idx.mk k (uv x) _ rfl (by simp [hx]) (by rw [hux]; try rfl) ?_
       (try (conv => whnf)); (repeat ((first | refine qT ?_ | refine qF ?_ | refine qO ?_ | (with_reducible intro z hz); (first | (replace hz := hz (by omega); subst hz) | subst hz)); (try (conv => whnf))))
       refine Idx.mk k (uv x) _ rfl (by simp [hx]) (by rw [hux]; try rfl) ?_
       (try (conv => whnf)); (repeat ((first | refine qT ?_ | refine qF ?_ | refine qO ?_ | (with_reducible intro z hz); (first | (replace hz := hz (by omega); subst hz) | subst hz)); (try (conv => whnf))))
       exact hfin _ (ILes.refl _)
     · have hnn := hnx (isNote_f fun hc => hls hc.2)
       (try (conv => whnf)); (repeat ((first | refine qT ?_ | refine qF ?_ | refine qO ?_ | (with_reducible intro z hz); (first | (replace hz := hz (by omega); subst hz) | subst hz)); (try (conv => whnf))))
       refine Idx.mk k (uv x) _ rfl (by simp [hx]) (by rw [hux]; try rfl) ?_
       (try (conv => whnf)); (repeat ((first | refine qT ?_ | refine qF ?_ | refine qO ?_ | (with_reducible intro z hz); (first | (replace hz := hz (by omega); subst hz) | subst hz)); (try (conv => whnf))))
       refine Idx.mk k (uv x) _ rfl (by simp [hx]) (by rw [hux]; try rfl) ?_
       (try (conv => whnf)); (repeat ((first | refine qT ?_ | refine qF ?_ | refine qO ?_ | (with_reducible intro z hz); (first | (replace hz := hz (by omega); subst hz) | subst hz)); (try (conv => whnf))))
       exact ⟨k + 1, ⟨by omega, hnn⟩, by dsimp only; omega, (qSL 1 rfl rfl)⟩
   · have hnn := hnx (isNote_f fun hc => h7 hc.1)
     (try (conv => whnf)); (repeat ((first | refine qT ?_ | refine qF ?_ | refine qO ?_ | (with_reducible intro z hz); (first | (replace hz := hz (by omega); subst hz) | subst hz)); (try (conv => whnf))))
     refine Idx.mk k (uv x) _ rfl (by simp [hx]) (by rw [hux]; try rfl) ?_
     (try (conv => whnf)); (repeat ((first | refine qT ?_ | refine qF ?_ | refine qO ?_ | (with_reducible intro z hz); (first | (replace hz := hz (by omega); subst hz) | subst hz)); (try (conv => whnf))))
     exact ⟨k + 1, ⟨by omega, hnn⟩, by dsimp only; omega, (qSL 1 rfl rfl)⟩
 | inr hge =>
   obtain rfl : k = u.kids.length := by omega
   rw [List.take_length] at hp
   have hc : calledN u s = u.kids.length := by
     unfold calledN
     cases hn : noteO u.kids s with
     | none => rfl
     | some n =>
       obtain ⟨x, hx, hxn, _⟩ := noteO_some hn
       rw [hp x (List.mem_of_getElem? hx)] at hxn
       cases hxn
   rw [hc] at hfin
   (try (conv => whnf)); (repeat ((first | refine qT ?_ | refine qF ?_ | refine qO ?_ | (with_reducible intro z hz); (first | (replace hz := hz (by omega); subst hz) | subst hz)); (try (conv => whnf))))
   exact hfin _ (ILes.refl _)
theorem has_pc (f : Fd) : PC Tryd.prog env0 29 [.sl 6 [fdv f], .int .i64 f.why, .agg [.int .i64 f.id.x, .int .i64 f.id.y, .int .i64 f.id.z], .str f.text] [.bool true] := by
 have hid : eqC [.int .i64 f.id.x, .int .i64 f.id.y, .int .i64 f.id.z] [.int .i64 f.id.x, .int .i64 f.id.y, .int .i64 f.id.z] = true := by simp [eqC]
 refine PC.of_va (T := tbw) eqw_ok tbw_ok rfl mixed Tryd.func29 rfl rfl (Nat.le_of_ble_eq_true rfl) ?_; intro Γ C WK LP fin h0 hW hC hB hR hLP hfin
 (try (conv => whnf)); (repeat ((first | refine qT ?_ | refine qF ?_ | refine qO ?_ | (with_reducible intro z hz); (first | (replace hz := hz (by omega); subst hz) | subst hz)); (try (conv => whnf))))
 refine Idx.mk 0 (fdv f) _ rfl rfl rfl ?_
 (try (conv => whnf)); (repeat ((first | refine qT ?_ | refine qF ?_ | refine qO ?_ | (with_reducible intro z hz); (first | (replace hz := hz (by omega); subst hz) | subst hz)); (try (conv => whnf))))
 refine Idx.mk 0 (fdv f) _ rfl rfl rfl ?_
 (try (conv => whnf)); (repeat ((first | refine qT ?_ | refine qF ?_ | refine qO ?_ | (with_reducible intro z hz); (first | (replace hz := hz (by omega); subst hz) | subst hz)); (try (conv => whnf))))
 refine Idx.mk 0 (fdv f) _ rfl rfl rfl ?_
 (try (conv => whnf)); (repeat ((first | refine qT ?_ | refine qF ?_ | refine qO ?_ | (with_reducible intro z hz); (first | (replace hz := hz (by omega); subst hz) | subst hz)); (try (conv => whnf))))
 exact hfin _ (ILes.refl _)
theorem short_words {m : Nat} {u : Ut} (h : Small m u) : u.words.length ≤ 1000 := by
 have h4 := List.all_eq_true.1 h.2.2 u (by rw [Ut.all_eq]; exact List.mem_cons_self)
 unfold fewB shortB at h4
 simp only [Bool.and_eq_true, decide_eq_true_eq, List.all_eq_true] at h4
 omega
theorem ok_sub {u v : Ut} (hok : OkT u) (h1 : Ok1 v) (hk : ∀ x ∈ v.kids, x ∈ u.kids) : OkT v := by
 intro y hy
 rw [Ut.all_eq] at hy
 rcases List.mem_cons.1 hy with rfl | hy
 · exact h1
 · obtain ⟨z, hz, hyz⟩ := mem_alls.1 hy
   exact hok y (kid_all (hk z hz) hyz)
theorem counts_app : ∀ a b : List Ut, Ut.counts (a ++ b) = Ut.counts a + Ut.counts b
 | [], b => by simp [Ut.counts]
 | x :: a, b => by simp only [List.cons_append, Ut.counts]; rw [counts_app a b]; omega
theorem cutK_count {u : Ut} {n : Nat} {x : Ut} (hx : u.kids[n]? = some x) : (cutK u n).count ≤ u.count := by
 have h1 := Ut.count_eq u
 have h2 := Ut.count_eq (cutK u n)
 rw [show (cutK u n).kids = u.kids.take n ++ u.kids.drop (n + 1) from rfl, counts_app] at h2
 rw [split_at hx, counts_app] at h1
 simp only [Ut.counts] at h1
 omega
theorem seven_anc : ancB (wd0 [94, 55]).text = true ∧ restS (wd0 [94, 55]).text = bs [55] := by decide +kernel
theorem lawCorruption (u : Ut) (hu : okU u) (at_ how : Int) : PC Tryd.prog env0 8 [uv u, .int .i64 at_, .int .i64 how] [.bool true] := by
 have hA := awake_pc
 have hF := few_pc u 60 hu (by omega) (by omega)
 have hue := uv_eq u
 have hkl : (u.kids.map uv).length = u.kids.length := List.length_map _
 have hml : (u.words.map wdv).length = u.words.length := List.length_map _
 cases hb : fewU u 60
 · rw [hb] at hF
   rw [hue] at hF ⊢
   refine PC.of_va (T := tbw) eqw_ok tbw_ok rfl mixed Tryd.func8 rfl rfl (Nat.le_of_ble_eq_true rfl) ?_; intro Γ C WK LP fin h0 hW hC hB hR hLP hfin
   (try (conv => whnf)); (repeat ((first | refine qT ?_ | refine qF ?_ | refine qO ?_ | (with_reducible intro z hz); (first | (replace hz := hz (by omega); subst hz) | subst hz) | (refine CallV.mk _ (hC _ _ _ (PCw.of hA)) (fun js hjs => ?_); subst hjs) | (refine CallV.mk _ (hC _ _ _ (PCw.of hF)) (fun js hjs => ?_); subst hjs)); (try (conv => whnf))))
   exact hfin _ (ILes.refl _)
 rw [hb] at hF
 obtain ⟨hs, hok, hc⟩ := few_count hb
 have hmem : u ∈ u.all := by rw [Ut.all_eq]; exact List.mem_cons_self
 have hou := hok u hmem
 have hk0 := hou.2.2
 have hw0 := short_words hs
 have hVa := fvalid_pc u hok (by omega)
 by_cases hL : fdsL u.all = []
 rotate_left
 · rw [decide_eq_false hL] at hVa
   rw [hue] at hF hVa ⊢
   refine PC.of_va (T := tbw) eqw_ok tbw_ok rfl mixed Tryd.func8 rfl rfl (Nat.le_of_ble_eq_true rfl) ?_; intro Γ C WK LP fin h0 hW hC hB hR hLP hfin
   (try (conv => whnf)); (repeat ((first | refine qT ?_ | refine qF ?_ | refine qO ?_ | (with_reducible intro z hz); (first | (replace hz := hz (by omega); subst hz) | subst hz) | (refine CallV.mk _ (hC _ _ _ (PCw.of hA)) (fun js hjs => ?_); subst hjs) | (refine CallV.mk _ (hC _ _ _ (PCw.of hF)) (fun js hjs => ?_); subst hjs) | (refine CallV.mk _ (hC _ _ _ (PCw.of hVa)) (fun js hjs => ?_); subst hjs)); (try (conv => whnf))))
   exact hfin _ (ILes.refl _)
 rw [decide_eq_true hL] at hVa
 by_cases hneg : at_ < 0
 · rw [hue] at hF hVa ⊢
   refine PC.of_va (T := tbw) eqw_ok tbw_ok rfl mixed Tryd.func8 rfl rfl (Nat.le_of_ble_eq_true rfl) ?_; intro Γ C WK LP fin h0 hW hC hB hR hLP hfin
   (try (conv => whnf)); (repeat ((first | refine qT ?_ | refine qF ?_ | refine qO ?_ | (with_reducible intro z hz); (first | (replace hz := hz (by omega); subst hz) | subst hz) | (refine CallV.mk _ (hC _ _ _ (PCw.of hA)) (fun js hjs => ?_); subst hjs) | (refine CallV.mk _ (hC _ _ _ (PCw.of hF)) (fun js hjs => ?_); subst hjs) | (refine CallV.mk _ (hC _ _ _ (PCw.of hVa)) (fun js hjs => ?_); subst hjs)); (try (conv => whnf))))
   exact hfin _ (ILes.refl _)
 obtain ⟨n, rfl⟩ := Int.eq_ofNat_of_zero_le (show 0 ≤ at_ by omega)
 have hv := val_all hL u hmem
 by_cases h0 : how = 0
 · subst h0
   by_cases hlen : u.kids.length ≤ n
   · rw [hue] at hF hVa ⊢
     refine PC.of_va (T := tbw) eqw_ok tbw_ok rfl mixed Tryd.func8 rfl rfl (Nat.le_of_ble_eq_true rfl) ?_; intro Γ C WK LP fin h0 hW hC hB hR hLP hfin
     (try (conv => whnf)); (repeat ((first | refine qT ?_ | refine qF ?_ | refine qO ?_ | (with_reducible intro z hz); (first | (replace hz := hz (by omega); subst hz) | subst hz) | (refine CallV.mk _ (hC _ _ _ (PCw.of hA)) (fun js hjs => ?_); subst hjs) | (refine CallV.mk _ (hC _ _ _ (PCw.of hF)) (fun js hjs => ?_); subst hjs) | (refine CallV.mk _ (hC _ _ _ (PCw.of hVa)) (fun js hjs => ?_); subst hjs)); (try (conv => whnf))))
     exact hfin _ (ILes.refl _)
   obtain ⟨x, hx⟩ : ∃ x, u.kids[n]? = some x := ⟨u.kids[n]'(by omega), List.getElem?_eq_getElem (by omega)⟩
   have hux := uv_eq x
   by_cases h7 : x.kind = 7
   rotate_left
   · rw [hue] at hF hVa ⊢
     refine PC.of_va (T := tbw) eqw_ok tbw_ok rfl mixed Tryd.func8 rfl rfl (Nat.le_of_ble_eq_true rfl) ?_; intro Γ C WK LP fin h0 hW hC hB hR hLP hfin
     (try (conv => whnf)); (repeat ((first | refine qT ?_ | refine qF ?_ | refine qO ?_ | (with_reducible intro z hz); (first | (replace hz := hz (by omega); subst hz) | subst hz) | (refine CallV.mk _ (hC _ _ _ (PCw.of hA)) (fun js hjs => ?_); subst hjs) | (refine CallV.mk _ (hC _ _ _ (PCw.of hF)) (fun js hjs => ?_); subst hjs) | (refine CallV.mk _ (hC _ _ _ (PCw.of hVa)) (fun js hjs => ?_); subst hjs)); (try (conv => whnf))))
     refine Idx.mk n (uv x) _ rfl (by simp [hx]) (by rw [hux]; try rfl) ?_
     (try (conv => whnf)); (repeat ((first | refine qT ?_ | refine qF ?_ | refine qO ?_ | (with_reducible intro z hz); (first | (replace hz := hz (by omega); subst hz) | subst hz)); (try (conv => whnf))))
     exact hfin _ (ILes.refl _)
   obtain ⟨j, hfd⟩ := cutK_fds hL hx h7
   have hCk := (check_pcr (cutK u n) (ok_sub hok ⟨hou.1, hou.2.1, by show (u.kids.take n ++ u.kids.drop (n + 1)).length ≤ 100000; rw [List.length_append, List.length_take, List.length_drop]; omega⟩ fun y hy => (List.mem_append.1 (show y ∈ u.kids.take n ++ u.kids.drop (n + 1) from hy)).elim List.mem_of_mem_take List.mem_of_mem_drop) (by have := cutK_count hx; omega)).pc
   rw [hfd] at hCk
   have hHas := has_pc ⟨j, u.id, 4, x.label⟩
   have hcu : uv (cutK u n) = .agg [.int .i64 u.id.x, .int .i64 u.id.y, .int .i64 u.id.z, .int .i64 u.kind, .str u.label, .sl 4 (u.head.map wdv), .sl 4 (u.words.map wdv), .sl 8 ((u.kids.take n ++ u.kids.drop (n + 1)).map uv)] := uv_mk _ _ _ _ _ _
   rw [hcu] at hCk
   have hCB : PCB Tryd.prog env0 19 [.agg [.imm (.int .i64 u.id.x), .imm (.int .i64 u.id.y), .imm (.int .i64 u.id.z), .imm (.int .i64 u.kind), .imm (.str u.label), .imm (.sl 4 (u.head.map wdv)), .imm (.sl 4 (u.words.map wdv)), .row 0 1]] [.row 27 8 1 (((u.kids.take n ++ u.kids.drop (n + 1)).map uv).map .imm)] [.imm (.sl 6 [fdv ⟨j, u.id, 4, x.label⟩])] [.dead 1] := PCB.frz 0 rfl (imms_mapI _) (ILe.refl _) rfl rfl (hCk.pcb [.dead 1])
   rw [hue] at hF hVa ⊢
   refine PC.of_va (T := tbw) eqw_ok tbw_ok rfl mixed Tryd.func8 rfl rfl (Nat.le_of_ble_eq_true rfl) ?_; intro Γ C WK LP fin h0 hW hC hB hR hLP hfin
   (try (conv => whnf)); (repeat ((first | refine qT ?_ | refine qF ?_ | refine qO ?_ | (with_reducible intro z hz); (first | (replace hz := hz (by omega); subst hz) | subst hz) | (refine CallV.mk _ (hC _ _ _ (PCw.of hA)) (fun js hjs => ?_); subst hjs) | (refine CallV.mk _ (hC _ _ _ (PCw.of hF)) (fun js hjs => ?_); subst hjs) | (refine CallV.mk _ (hC _ _ _ (PCw.of hVa)) (fun js hjs => ?_); subst hjs)); (try (conv => whnf))))
   refine Idx.mk n (uv x) _ rfl (by simp [hx]) (by rw [hux]; try rfl) ?_
   (try (conv => whnf)); (repeat ((first | refine qT ?_ | refine qF ?_ | refine qO ?_ | (with_reducible intro z hz); (first | (replace hz := hz (by omega); subst hz) | subst hz)); (try (conv => whnf))))
   refine Imms.mk ((u.kids.take n ++ u.kids.drop (n + 1)).map uv) (by simp [List.map_take, List.map_drop]) ?_
   (try (conv => whnf)); (repeat ((first | refine qT ?_ | refine qF ?_ | refine qO ?_ | (with_reducible intro z hz); (first | (replace hz := hz (by omega); subst hz) | subst hz)); (try (conv => whnf))))
   refine CallB.mk ([.imm (.sl 6 [fdv ⟨j, u.id, 4, x.label⟩])]) ([.dead 1]) (hB _ _ _ _ _ (hCB)) ?_
   (try (conv => whnf)); (repeat ((first | refine qT ?_ | refine qF ?_ | refine qO ?_ | (with_reducible intro z hz); (first | (replace hz := hz (by omega); subst hz) | subst hz)); (try (conv => whnf))))
   refine Idx.mk n (uv x) _ rfl (by simp [hx]) (by rw [hux]; try rfl) ?_
   (try (conv => whnf)); (repeat ((first | refine qT ?_ | refine qF ?_ | refine qO ?_ | (with_reducible intro z hz); (first | (replace hz := hz (by omega); subst hz) | subst hz) | (refine CallV.mk _ (hC _ _ _ (PCw.of hHas)) (fun js hjs => ?_); subst hjs)); (try (conv => whnf))))
   exact hfin _ (ILes.refl _)
 by_cases h1 : how = 1
 · subst h1
   by_cases hlen : u.words.length ≤ n
   · rw [hue] at hF hVa ⊢
     refine PC.of_va (T := tbw) eqw_ok tbw_ok rfl mixed Tryd.func8 rfl rfl (Nat.le_of_ble_eq_true rfl) ?_; intro Γ C WK LP fin h0 hW hC hB hR hLP hfin
     (try (conv => whnf)); (repeat ((first | refine qT ?_ | refine qF ?_ | refine qO ?_ | (with_reducible intro z hz); (first | (replace hz := hz (by omega); subst hz) | subst hz) | (refine CallV.mk _ (hC _ _ _ (PCw.of hA)) (fun js hjs => ?_); subst hjs) | (refine CallV.mk _ (hC _ _ _ (PCw.of hF)) (fun js hjs => ?_); subst hjs) | (refine CallV.mk _ (hC _ _ _ (PCw.of hVa)) (fun js hjs => ?_); subst hjs)); (try (conv => whnf))))
     exact hfin _ (ILes.refl _)
   obtain ⟨a, ha⟩ : ∃ a, u.words[n]? = some a := ⟨u.words[n]'(by omega), List.getElem?_eq_getElem (by omega)⟩
   have hP := parse_pc a.text (by have := hou.2.1 a (List.mem_of_getElem? ha); omega)
   unfold ancS at hP
   cases hba : ancB a.text
   · rw [hba] at hP
     simp only [Bool.false_eq_true, if_false] at hP
     rw [hue] at hF hVa ⊢
     refine PC.of_va (T := tbw) eqw_ok tbw_ok rfl mixed Tryd.func8 rfl rfl (Nat.le_of_ble_eq_true rfl) ?_; intro Γ C WK LP fin h0 hW hC hB hR hLP hfin
     (try (conv => whnf)); (repeat ((first | refine qT ?_ | refine qF ?_ | refine qO ?_ | (with_reducible intro z hz); (first | (replace hz := hz (by omega); subst hz) | subst hz) | (refine CallV.mk _ (hC _ _ _ (PCw.of hA)) (fun js hjs => ?_); subst hjs) | (refine CallV.mk _ (hC _ _ _ (PCw.of hF)) (fun js hjs => ?_); subst hjs) | (refine CallV.mk _ (hC _ _ _ (PCw.of hVa)) (fun js hjs => ?_); subst hjs)); (try (conv => whnf))))
     refine Idx.mk n (wdv a) _ rfl (by simp [ha]) rfl ?_
     (try (conv => whnf)); (repeat ((first | refine qT ?_ | refine qF ?_ | refine qO ?_ | (with_reducible intro z hz); (first | (replace hz := hz (by omega); subst hz) | subst hz) | (refine CallV.mk _ (hC _ _ _ (PCw.of hP)) (fun js hjs => ?_); subst hjs)); (try (conv => whnf))))
     exact hfin _ (ILes.refl _)
   rw [hba] at hP
   simp only [if_true] at hP
   obtain ⟨k, x, hx, hno, hfd⟩ := cutW_fds hL ha hba
   have hux := uv_eq x
   have hcl := called_pc u (restS a.text) (by omega)
   rw [show calledN u (restS a.text) = k by unfold calledN; rw [hno]; rfl] at hcl
   have hkk := (List.getElem?_eq_some_iff.1 hx).1
   have hCk := (check_pcr (cutW u n) (ok_sub hok ⟨by show (u.words.take n ++ u.words.drop (n + 1)).length ≤ 100000; rw [List.length_append, List.length_take, List.length_drop]; omega, fun b hb => hou.2.1 b ((List.mem_append.1 (show b ∈ u.words.take n ++ u.words.drop (n + 1) from hb)).elim List.mem_of_mem_take List.mem_of_mem_drop), hk0⟩ fun y hy => hy) (by have h1 := Ut.count_eq u; have h2 := Ut.count_eq (cutW u n); rw [show (cutW u n).kids = u.kids from rfl] at h2; omega)).pc
   rw [hfd] at hCk
   have hHas := has_pc ⟨k, x.id, 7, restS a.text⟩
   have hcu : uv (cutW u n) = .agg [.int .i64 u.id.x, .int .i64 u.id.y, .int .i64 u.id.z, .int .i64 u.kind, .str u.label, .sl 4 (u.head.map wdv), .sl 4 ((u.words.take n ++ u.words.drop (n + 1)).map wdv), .sl 8 (u.kids.map uv)] := uv_mk _ _ _ _ _ _
   rw [hcu] at hCk
   have hCB : PCB Tryd.prog env0 19 [.agg [.imm (.int .i64 u.id.x), .imm (.int .i64 u.id.y), .imm (.int .i64 u.id.z), .imm (.int .i64 u.kind), .imm (.str u.label), .imm (.sl 4 (u.head.map wdv)), .row 0 1, .imm (.sl 8 (u.kids.map uv))]] [.row 52 4 1 (((u.words.take n ++ u.words.drop (n + 1)).map wdv).map .imm)] [.imm (.sl 6 [fdv ⟨k, x.id, 7, restS a.text⟩])] [.dead 1] := PCB.frz 0 rfl (imms_mapI _) (ILe.refl _) rfl rfl (hCk.pcb [.dead 1])
   rw [hue] at hF hVa hcl ⊢
   refine PC.of_va (T := tbw) eqw_ok tbw_ok rfl mixed Tryd.func8 rfl rfl (Nat.le_of_ble_eq_true rfl) ?_; intro Γ C WK LP fin h0 hW hC hB hR hLP hfin
   (try (conv => whnf)); (repeat ((first | refine qT ?_ | refine qF ?_ | refine qO ?_ | (with_reducible intro z hz); (first | (replace hz := hz (by omega); subst hz) | subst hz) | (refine CallV.mk _ (hC _ _ _ (PCw.of hA)) (fun js hjs => ?_); subst hjs) | (refine CallV.mk _ (hC _ _ _ (PCw.of hF)) (fun js hjs => ?_); subst hjs) | (refine CallV.mk _ (hC _ _ _ (PCw.of hVa)) (fun js hjs => ?_); subst hjs)); (try (conv => whnf))))
   refine Idx.mk n (wdv a) _ rfl (by simp [ha]) rfl ?_
   (try (conv => whnf)); (repeat ((first | refine qT ?_ | refine qF ?_ | refine qO ?_ | (with_reducible intro z hz); (first | (replace hz := hz (by omega); subst hz) | subst hz) | (refine CallV.mk _ (hC _ _ _ (PCw.of hP)) (fun js hjs => ?_); subst hjs)); (try (conv => whnf))))
   refine Imms.mk ((u.words.take n ++ u.words.drop (n + 1)).map wdv) (by simp [List.map_take, List.map_drop]) ?_
   (try (conv => whnf)); (repeat ((first | refine qT ?_ | refine qF ?_ | refine qO ?_ | (with_reducible intro z hz); (first | (replace hz := hz (by omega); subst hz) | subst hz)); (try (conv => whnf))))
   refine CallB.mk ([.imm (.sl 6 [fdv ⟨k, x.id, 7, restS a.text⟩])]) ([.dead 1]) (hB _ _ _ _ _ (hCB)) ?_
   (try (conv => whnf)); (repeat ((first | refine qT ?_ | refine qF ?_ | refine qO ?_ | (with_reducible intro z hz); (first | (replace hz := hz (by omega); subst hz) | subst hz) | (refine CallV.mk _ (hC _ _ _ (PCw.of hcl)) (fun js hjs => ?_); subst hjs)); (try (conv => whnf))))
   refine Idx.mk k (uv x) _ rfl (by simp [hx]) (by rw [hux]; try rfl) ?_
   (try (conv => whnf)); (repeat ((first | refine qT ?_ | refine qF ?_ | refine qO ?_ | (with_reducible intro z hz); (first | (replace hz := hz (by omega); subst hz) | subst hz) | (refine CallV.mk _ (hC _ _ _ (PCw.of hHas)) (fun js hjs => ?_); subst hjs)); (try (conv => whnf))))
   exact hfin _ (ILes.refl _)
 by_cases h2 : how = 2
 rotate_left
 · rw [hue] at hF hVa ⊢
   refine PC.of_va (T := tbw) eqw_ok tbw_ok rfl mixed Tryd.func8 rfl rfl (Nat.le_of_ble_eq_true rfl) ?_; intro Γ C WK LP fin h0 hW hC hB hR hLP hfin
   (try (conv => whnf)); (repeat ((first | refine qT ?_ | refine qF ?_ | refine qO ?_ | (with_reducible intro z hz); (first | (replace hz := hz (by omega); subst hz) | subst hz) | (refine CallV.mk _ (hC _ _ _ (PCw.of hA)) (fun js hjs => ?_); subst hjs) | (refine CallV.mk _ (hC _ _ _ (PCw.of hF)) (fun js hjs => ?_); subst hjs) | (refine CallV.mk _ (hC _ _ _ (PCw.of hVa)) (fun js hjs => ?_); subst hjs)); (try (conv => whnf))))
   exact hfin _ (ILes.refl _)
 subst h2
 have h9 := seven_anc
 have hfd := add_fds hL (a := wd0 [94, 55]) h9.1
 have hCk := (check_pcr (addW u (wd0 [94, 55])) (ok_sub hok ⟨by show (u.words ++ [wd0 [94, 55]]).length ≤ 100000; rw [List.length_append, List.length_singleton]; omega, fun b hb => by
   rcases List.mem_append.1 (show b ∈ u.words ++ [wd0 [94, 55]] from hb) with hb | hb
   · exact hou.2.1 b hb
   · rw [List.mem_singleton] at hb
     subst hb
     exact Nat.le_of_ble_eq_true rfl, hk0⟩ fun y hy => hy) (by have h1 := Ut.count_eq u; have h2 := Ut.count_eq (addW u (wd0 [94, 55])); rw [show (addW u (wd0 [94, 55])).kids = u.kids from rfl] at h2; omega)).pc
 rw [hfd, show restS (wd0 [94, 55]).text = bs [55] from h9.2] at hCk
 have hcu : uv (addW u (wd0 [94, 55])) = .agg [.int .i64 u.id.x, .int .i64 u.id.y, .int .i64 u.id.z, .int .i64 u.kind, .str u.label, .sl 4 (u.head.map wdv), .sl 4 ((u.words ++ [wd0 [94, 55]]).map wdv), .sl 8 (u.kids.map uv)] := uv_mk _ _ _ _ _ _
 rw [hcu] at hCk
 have hcl := called_pc u (bs [55]) (by omega)
 cases hin : inB (bs [55]) (labL u.words)
 · rw [hin] at hCk
   have hHas := has_pc ⟨u.words.length, u.id, 4, bs [55]⟩
   have hCB : PCB Tryd.prog env0 19 [.agg [.imm (.int .i64 u.id.x), .imm (.int .i64 u.id.y), .imm (.int .i64 u.id.z), .imm (.int .i64 u.kind), .imm (.str u.label), .imm (.sl 4 (u.head.map wdv)), .row 0 1, .imm (.sl 8 (u.kids.map uv))]] [.row 52 4 1 (((u.words ++ [wd0 [94, 55]]).map wdv).map .imm)] [.imm (.sl 6 [fdv ⟨u.words.length, u.id, 4, bs [55]⟩])] [.dead 1] := PCB.frz 0 rfl (imms_mapI _) (ILe.refl _) rfl rfl (hCk.pcb [.dead 1])
   have hno : calledN u (bs [55]) = u.kids.length := by
     unfold calledN
     cases hn : noteO u.kids (bs [55]) with
     | none => rfl
     | some k => rw [inB_mem.2 (noteO_lab hv hn)] at hin; cases hin
   rw [hno] at hcl
   rw [hue] at hF hVa hcl ⊢
   refine PC.of_va (T := tbw) eqw_ok tbw_ok rfl mixed Tryd.func8 rfl rfl (Nat.le_of_ble_eq_true rfl) ?_; intro Γ C WK LP fin h0 hW hC hB hR hLP hfin
   (try (conv => whnf)); (repeat ((first | refine qT ?_ | refine qF ?_ | refine qO ?_ | (with_reducible intro z hz); (first | (replace hz := hz (by omega); subst hz) | subst hz) | (refine CallV.mk _ (hC _ _ _ (PCw.of hA)) (fun js hjs => ?_); subst hjs) | (refine CallV.mk _ (hC _ _ _ (PCw.of hF)) (fun js hjs => ?_); subst hjs) | (refine CallV.mk _ (hC _ _ _ (PCw.of hVa)) (fun js hjs => ?_); subst hjs) | (refine CallV.mk _ (hC _ _ _ (PCw.of hcl)) (fun js hjs => ?_); subst hjs)); (try (conv => whnf))))
   refine Imms.mk ((u.words ++ [wd0 [94, 55]]).map wdv) (by simp [wdv, wd0, bs]) ?_
   (try (conv => whnf)); (repeat ((first | refine qT ?_ | refine qF ?_ | refine qO ?_ | (with_reducible intro z hz); (first | (replace hz := hz (by omega); subst hz) | subst hz)); (try (conv => whnf))))
   refine CallB.mk ([.imm (.sl 6 [fdv ⟨u.words.length, u.id, 4, bs [55]⟩])]) ([.dead 1]) (hB _ _ _ _ _ (hCB)) ?_
   (try (conv => whnf)); (repeat ((first | refine qT ?_ | refine qF ?_ | refine qO ?_ | (with_reducible intro z hz); (first | (replace hz := hz (by omega); subst hz) | subst hz) | (refine CallV.mk _ (hC _ _ _ (PCw.of hHas)) (fun js hjs => ?_); subst hjs)); (try (conv => whnf))))
   exact hfin _ (ILes.refl _)
 · rw [hin] at hCk
   have hHas := has_pc ⟨u.words.length, u.id, 5, bs [55]⟩
   have hCB : PCB Tryd.prog env0 19 [.agg [.imm (.int .i64 u.id.x), .imm (.int .i64 u.id.y), .imm (.int .i64 u.id.z), .imm (.int .i64 u.kind), .imm (.str u.label), .imm (.sl 4 (u.head.map wdv)), .row 0 1, .imm (.sl 8 (u.kids.map uv))]] [.row 52 4 1 (((u.words ++ [wd0 [94, 55]]).map wdv).map .imm)] [.imm (.sl 6 [fdv ⟨u.words.length, u.id, 5, bs [55]⟩])] [.dead 1] := PCB.frz 0 rfl (imms_mapI _) (ILe.refl _) rfl rfl (hCk.pcb [.dead 1])
   obtain ⟨k, hk⟩ := lab_noteO hv (inB_mem.1 hin)
   have hkk : k < u.kids.length := by
     obtain ⟨x, hx, _⟩ := noteO_some hk
     exact (List.getElem?_eq_some_iff.1 hx).1
   have hno : calledN u (bs [55]) = k := by
     unfold calledN
     rw [hk]
     rfl
   rw [hno] at hcl
   rw [hue] at hF hVa hcl ⊢
   refine PC.of_va (T := tbw) eqw_ok tbw_ok rfl mixed Tryd.func8 rfl rfl (Nat.le_of_ble_eq_true rfl) ?_; intro Γ C WK LP fin h0 hW hC hB hR hLP hfin
   (try (conv => whnf)); (repeat ((first | refine qT ?_ | refine qF ?_ | refine qO ?_ | (with_reducible intro z hz); (first | (replace hz := hz (by omega); subst hz) | subst hz) | (refine CallV.mk _ (hC _ _ _ (PCw.of hA)) (fun js hjs => ?_); subst hjs) | (refine CallV.mk _ (hC _ _ _ (PCw.of hF)) (fun js hjs => ?_); subst hjs) | (refine CallV.mk _ (hC _ _ _ (PCw.of hVa)) (fun js hjs => ?_); subst hjs) | (refine CallV.mk _ (hC _ _ _ (PCw.of hcl)) (fun js hjs => ?_); subst hjs)); (try (conv => whnf))))
   refine Imms.mk ((u.words ++ [wd0 [94, 55]]).map wdv) (by simp [wdv, wd0, bs]) ?_
   (try (conv => whnf)); (repeat ((first | refine qT ?_ | refine qF ?_ | refine qO ?_ | (with_reducible intro z hz); (first | (replace hz := hz (by omega); subst hz) | subst hz)); (try (conv => whnf))))
   refine CallB.mk ([.imm (.sl 6 [fdv ⟨u.words.length, u.id, 5, bs [55]⟩])]) ([.dead 1]) (hB _ _ _ _ _ (hCB)) ?_
   (try (conv => whnf)); (repeat ((first | refine qT ?_ | refine qF ?_ | refine qO ?_ | (with_reducible intro z hz); (first | (replace hz := hz (by omega); subst hz) | subst hz) | (refine CallV.mk _ (hC _ _ _ (PCw.of hHas)) (fun js hjs => ?_); subst hjs)); (try (conv => whnf))))
   exact hfin _ (ILes.refl _)
end Go.Proofs.YtkjgmnmngbfhhaaDoor.Pn
