/-
  What renumbering does, place by place. The reference's Number, walked; the law of renumbering. How words are compared; what renumbering keeps; the law of preservation.
-/
import Derived.Test.YtkjgmnmngbfhhaaDoorWFq
namespace Go.Proofs.YtkjgmnmngbfhhaaDoor.Pn
open Go Go.Pv Go.RowKit Go.Proofs.YtkjgmnmngbfhhaaDoor.Pb
set_option linter.unusedSimpArgs false
open Lab Lcs Go.Proofs.YtkjgmnmngbfhhaaDoor Go.Proofs.YtkjgmnmngbfhhaaDoor.Pu
set_option maxRecDepth 10000
set_option maxHeartbeats 8000000
def renG {α : Type} (f : Nat → α → α) (l : List Nat) (W : List α) : List α := l.zipIdx.foldl (fun W p => W.modify p.1 (f p.2)) W
theorem renG_snoc {α : Type} (f : Nat → α → α) (l : List Nat) (n : Nat) (W : List α) : renG f (l ++ [n]) W = (renG f l W).modify n (f l.length) := by
 unfold renG
 rw [List.zipIdx_append, List.foldl_append]
 simp
theorem renWs_G (l : List Nat) (W : List Wd) : renWs l W = renG (fun i a => retext a (crt ++ decS (i + 1))) l W := rfl
theorem renKs_G (l : List Nat) (W : List Ut) : renKs l W = renG (fun i x => relab x (decS (i + 1))) l W := rfl
theorem renG_at {α : Type} (f : Nat → α → α) : ∀ (n : Nat) (l : List Nat), l.length = n → l.Nodup → ∀ (W : List α) (j : Nat), (j ∉ l → (renG f l W)[j]? = W[j]?) ∧ ∀ i, l[i]? = some j → (renG f l W)[j]? = (W[j]?).map (f i) := by
 intro n
 induction n with
 | zero =>
   intro l hl _ W j
   obtain rfl := List.eq_nil_of_length_eq_zero hl
   exact ⟨fun _ => rfl, fun i h => by simp at h⟩
 | succ n ih =>
   intro L hL hnd W j
   obtain ⟨r, x, rfl⟩ : ∃ r x, L = r ++ [x] := ⟨L.dropLast, L.getLast (by intro h; subst h; simp at hL), (List.dropLast_concat_getLast _).symm⟩
   obtain ⟨hr, _, hx⟩ := List.nodup_append.1 hnd
   have hxr : x ∉ r := fun h => hx x h x (by simp) rfl
   obtain ⟨h1, h2⟩ := ih r (by simpa using hL) hr W j
   rw [renG_snoc, List.getElem?_modify]
   refine ⟨fun hj => ?_, fun i hi => ?_⟩
   · have hjr : j ∉ r := fun h => hj (List.mem_append_left _ h)
     have hjx : ¬ x = j := fun h => hj (by subst h; simp)
     rw [h1 hjr]
     cases W[j]? <;> simp [hjx]
   · rcases Nat.lt_or_ge i r.length with hlt | hge
     · rw [List.getElem?_append_left hlt] at hi
       have hjx : ¬ x = j := fun h => hxr (by subst h; exact List.mem_of_getElem? hi)
       rw [h2 i hi]
       cases W[j]? <;> simp [hjx]
     · rw [List.getElem?_append_right hge] at hi
       have hi0 : i - r.length = 0 := by
         rcases Nat.eq_zero_or_pos (i - r.length) with h | h
         · exact h
         · rw [List.getElem?_eq_none (by simp only [List.length_singleton]; omega)] at hi; cases hi
       rw [hi0] at hi
       have hxj : x = j := by simpa using hi
       subst hxj
       have hil : i = r.length := by omega
       subst hil
       rw [h1 hxr]
       cases W[x]? <;> simp
theorem at_mem {α : Type} {l : List α} {x : α} (h : x ∈ l) : ∃ i : Nat, l[i]? = some x := by
 obtain ⟨i, hi, he⟩ := List.getElem_of_mem h
 exact ⟨i, by rw [List.getElem?_eq_getElem hi, he]⟩
def posL (l : List Wd) : List Nat := (ancL l).map Prod.fst
theorem posL_lt {l : List Wd} {n : Nat} (h : n ∈ posL l) : ∃ a, l[n]? = some a ∧ ancB a.text = true := by
 obtain ⟨p, hp, rfl⟩ := List.mem_map.1 h
 obtain ⟨a, h1, h2, _⟩ := ancL_at hp
 exact ⟨a, h1, h2⟩
theorem posL_nodup : ∀ (n : Nat) (l : List Wd), l.length = n → (posL l).Nodup := by
 intro n
 induction n with
 | zero => intro l hl; obtain rfl := List.eq_nil_of_length_eq_zero hl; exact List.nodup_nil
 | succ n ih =>
   intro L hL
   obtain ⟨r, x, rfl⟩ : ∃ r x, L = r ++ [x] := ⟨L.dropLast, L.getLast (by intro h; subst h; simp at hL), (List.dropLast_concat_getLast _).symm⟩
   have h1 := ih r (by simpa using hL)
   unfold posL at h1 ⊢
   rw [ancL_snoc, List.map_append, List.nodup_append]
   refine ⟨h1, ?_, ?_⟩
   · split <;> simp
   · intro a ha b hb
     obtain ⟨y, hy, _⟩ := posL_lt (l := r) (n := a) ha
     have := (List.getElem?_eq_some_iff.1 hy).1
     split at hb
     · simp at hb; omega
     · simp at hb
theorem anc_mem {l : List Wd} {j : Nat} {a : Wd} (h : l[j]? = some a) (hb : ancB a.text = true) : ∃ i : Nat, (ancL l)[i]? = some (j, restS a.text) := by
 refine at_mem ?_
 unfold ancL
 exact List.mem_map.2 ⟨(a, j), List.mem_filter.2 ⟨List.mem_zipIdx_iff_getElem?.2 h, hb⟩, rfl⟩
theorem pos_of {l : List Wd} {i j : Nat} {s : Str} (h : (ancL l)[i]? = some (j, s)) : (posL l)[i]? = some j ∧ (labL l)[i]? = some s := by
 unfold posL labL
 rw [List.getElem?_map, List.getElem?_map, h]
 exact ⟨rfl, rfl⟩
theorem wrd_plain {l : List Wd} {j : Nat} {a : Wd} (h : l[j]? = some a) (hb : ancB a.text = false) : (renWs (posL l) l)[j]? = some a := by
 rw [renWs_G, (renG_at _ _ _ rfl (posL_nodup _ l rfl) l j).1 fun hm => ?_, h]
 obtain ⟨a', h1, h2⟩ := posL_lt hm
 rw [h] at h1
 rw [← Option.some.inj h1, hb] at h2
 cases h2
theorem wrd_anchor {l : List Wd} {i j : Nat} {a : Wd} {s : Str} (h : l[j]? = some a) (hi : (ancL l)[i]? = some (j, s)) : (renWs (posL l) l)[j]? = some (retext a (crt ++ decS (i + 1))) := by
 rw [renWs_G, (renG_at _ _ _ rfl (posL_nodup _ l rfl) l j).2 i (pos_of hi).1, h]
 rfl
theorem idx_nodup {L : List Str} {i : Nat} {s : Str} (hd : L.Nodup) (h : L[i]? = some s) : idxZ (fun x => decide (x = s)) L = (i : Nat) := by
 refine idxZ_hit h (by simp) fun y hy => ?_
 obtain ⟨hlt, hs⟩ := List.getElem?_eq_some_iff.1 h
 have hL : L = L.take i ++ s :: L.drop (i + 1) := by
   rw [← hs, ← List.drop_eq_getElem_cons hlt, List.take_append_drop]
 rw [hL] at hd
 have := (List.nodup_append.1 hd).2.2 y hy s (by simp)
 simpa using this
theorem onceL_nodup : ∀ (n : Nat) (L : List Str), L.length = n → L.Nodup → onceL L = L := by
 intro n
 induction n with
 | zero => intro l hl _; obtain rfl := List.eq_nil_of_length_eq_zero hl; rfl
 | succ n ih =>
   intro L hL hnd
   obtain ⟨r, x, rfl⟩ : ∃ r x, L = r ++ [x] := ⟨L.dropLast, L.getLast (by intro h; subst h; simp at hL), (List.dropLast_concat_getLast _).symm⟩
   obtain ⟨hr, _, hx⟩ := List.nodup_append.1 hnd
   have hxr : inB x r = false := by
     cases h : inB x r
     · rfl
     · exact absurd rfl (hx x (inB_mem.1 h) x (by simp))
   rw [onceL_snoc, hxr, ih r (by simpa using hL) hr]
   rfl
theorem filterMap_at {α β : Type} {f : α → Option β} : ∀ {l : List α}, (∀ a ∈ l, ∃ k, f a = some k) → ∀ (i : Nat) (s : α), l[i]? = some s → (l.filterMap f)[i]? = f s
 | [], _, i, s, h => by simp at h
 | a :: l, hall, i, s, h => by
   obtain ⟨k, hk⟩ := hall a List.mem_cons_self
   rw [List.filterMap_cons, hk]
   cases i with
   | zero => simp at h; subst h; simp [hk]
   | succ i =>
     have := filterMap_at (l := l) (fun b hb => hall b (List.mem_cons_of_mem _ hb)) i s (by simpa using h)
     simpa using this
theorem lost_nil {u : Ut} (h2 : lostN u = []) {n : Nat} {x : Ut} (hx : u.kids[n]? = some x) (h7 : x.kind = 7) : n ∈ callN u := by
 have hat : ∀ (l : List Ut) (k i : Nat) (c : List Nat), lostL c k l = [] → l[i]? = some x → k + i ∈ c := by
   intro l
   induction l with
   | nil => intro k i c _ h; simp at h
   | cons y l ih =>
     intro k i c hl h
     simp only [lostL, List.append_eq_nil_iff] at hl
     cases i with
     | zero =>
       simp only [List.getElem?_cons_zero, Option.some.injEq] at h
       subst h
       have := hl.1
       unfold lostA at this
       split at this
       · cases this
       · rename_i hc
         by_cases hk : k ∈ c
         · exact hk
         · exact absurd ⟨h7, hk⟩ hc
     | succ i =>
       have := ih (k + 1) i c hl.2 (by simpa using h)
       rwa [show k + 1 + i = k + (i + 1) by omega] at this
 have := hat u.kids 0 n (callN u) h2 hx
 rwa [Nat.zero_add] at this
structure ValU (u : Ut) : Prop where
 len : (callN u).length = (labL u.words).length
 nd : (callN u).Nodup
 lnd : (labL u.words).Nodup
 call : ∀ (i : Nat) s, (labL u.words)[i]? = some s → ∃ n, (callN u)[i]? = some n ∧ noteO u.kids s = some n
 kid : ∀ (k : Nat) x, u.kids[k]? = some x → x.kind = 7 → k ∈ callN u
theorem val_of {u : Ut} (h1 : faultN u = []) (h2 : lostN u = []) : ValU u := by
 obtain ⟨a1, a2, a3, a4⟩ := calls_all _ (ancL u.words) rfl h1
 refine ⟨by unfold labL; rw [List.length_map]; exact a1, a2, a4, fun i s hs => ?_, fun k x hx h7 => lost_nil h2 hx h7⟩
 have hall : ∀ a ∈ labL u.words, ∃ k, noteO u.kids a = some k := fun a ha => by
   obtain ⟨p, hp, rfl⟩ := List.mem_map.1 ha
   exact a3 p hp
 obtain ⟨n, hn⟩ := hall s (List.mem_of_getElem? hs)
 refine ⟨n, ?_, hn⟩
 have := filterMap_at hall i s hs
 rw [← hn, ← this]
 show (callsL u.kids (ancL u.words))[i]? = _
 rw [calls_once, onceL_nodup _ _ rfl a4]
 rfl
theorem ValU.note {u : Ut} (h : ValU u) {k : Nat} {x : Ut} (hx : u.kids[k]? = some x) (h7 : x.kind = 7) : ∃ i : Nat, (callN u)[i]? = some k ∧ (labL u.words)[i]? = some x.label := by
 obtain ⟨i, hi⟩ := at_mem (h.kid k x hx h7)
 have hlt := (List.getElem?_eq_some_iff.1 hi).1
 rw [h.len] at hlt
 obtain ⟨n, hn, ho⟩ := h.call i _ (List.getElem?_eq_getElem hlt)
 rw [hi] at hn
 obtain rfl := Option.some.inj hn
 obtain ⟨y, hy, hyn, _⟩ := noteO_some ho
 rw [hx] at hy
 obtain rfl := Option.some.inj hy
 unfold isNote at hyn
 simp only [Bool.and_eq_true, decide_eq_true_eq] at hyn
 exact ⟨i, hi, by rw [hyn.2]; exact List.getElem?_eq_getElem hlt⟩
theorem kid_plain {u : Ut} {K : List Ut} (h : ValU u) {k : Nat} {x : Ut} (hx : u.kids[k]? = some x) (h7 : x.kind ≠ 7) : (renKs (callN u) K)[k]? = K[k]? := by
 rw [renKs_G]
 refine (renG_at _ _ _ rfl h.nd K k).1 fun hm => ?_
 obtain ⟨y, hy, hy7⟩ := callN_at hm
 rw [hx] at hy
 rw [Option.some.inj hy] at h7
 exact h7 hy7
theorem kid_note {u : Ut} {K : List Ut} (h : ValU u) {i k : Nat} (hi : (callN u)[i]? = some k) : (renKs (callN u) K)[k]? = (K[k]?).map fun x => relab x (decS (i + 1)) := by
 rw [renKs_G]
 exact (renG_at _ _ _ rfl h.nd K k).2 i hi
theorem val_all {u : Ut} (h : fdsL u.all = []) : ∀ x ∈ u.all, ValU x := fun x hx => val_of (per_nil h x hx).1 (per_nil h x hx).2
theorem renum_kind (x : Ut) : (renum x).kind = x.kind := by rw [renum_eq]; rfl
theorem renum_label (x : Ut) : (renum x).label = x.label := by rw [renum_eq]; rfl
theorem renum_id (x : Ut) : (renum x).id = x.id := by rw [renum_eq]; rfl
end Go.Proofs.YtkjgmnmngbfhhaaDoor.Pn
namespace Go.Proofs.YtkjgmnmngbfhhaaDoor.Pn
open Go Go.Pv Go.RowKit Go.Proofs.YtkjgmnmngbfhhaaDoor.Pb
set_option linter.unusedSimpArgs false
open Lab Lcs Go.Proofs.YtkjgmnmngbfhhaaDoor Go.Proofs.YtkjgmnmngbfhhaaDoor.Pu
set_option maxRecDepth 10000
set_option maxHeartbeats 16000000
theorem PC.arg {P : Program} {X : Env} {f : FuncId} {args args' res : List IV} (h : PC P X f args' res) (hl : ILes args args') : PC P X f args res :=
 ⟨h.1, fun Q w vs hQ hg hX hvs => h.2 Q w vs hQ hg hX (hl.rep hvs)⟩
theorem dec_size (n : Nat) : (decS n).size ≤ 2 := by
 unfold decS decB
 split <;> exact Nat.le_of_ble_eq_true rfl
theorem crt_size (n : Nat) : (⟨#[94]⟩ : Str).size + (decS n).size ≤ most := by
 have h1 : (⟨#[94]⟩ : Str).size = 1 := rfl
 have h2 := dec_size n
 unfold most
 omega
theorem number_pc (N : Nat) : ∀ u : Ut, u.count ≤ N → N ≤ 1000 → OkT u → GoodR u → (∀ x ∈ u.all, ValU x) → PC Tryd.prog env0 26 [uv u] [uv (renum u)] := by
 induction N with
 | zero => intro u h; have := count_pos u; omega
 | succ N ih =>
 intro u hN hM hok hgr hva
 have hue := uv_eq u
 have hmem : u ∈ u.all := by rw [Ut.all_eq]; exact List.mem_cons_self
 have hou := hok u hmem
 have hvu := hva u hmem
 obtain ⟨hgl, hw90, hh90⟩ := hgr u hmem
 have hA := (rlabels_pcr u hou).pc
 have hll := labL_len u.words
 have hml : (u.words.map wdv).length = u.words.length := List.length_map _
 have hkl : (u.kids.map uv).length = u.kids.length := List.length_map _
 have hw := hou.1
 have hk0 := hou.2.2
 have hwl : (renWs (posL u.words) u.words).length = u.words.length := renWs_len _ _
 have hkn : (renKs (callN u) (u.kids.map renum)).length = u.kids.length := by
   have h := renKs_len (callN u).zipIdx (u.kids.map renum)
   rw [List.length_map] at h
   exact h
 have hwp : ∀ (j : Nat) (a : Wd), u.words[j]? = some a → ancB a.text = false → (renWs (posL u.words) u.words)[j]? = some a := fun j a => wrd_plain
 have hwa : ∀ (i j : Nat) (a : Wd) (s : Str), u.words[j]? = some a → (ancL u.words)[i]? = some (j, s) → (renWs (posL u.words) u.words)[j]? = some (retext a (crt ++ decS (i + 1))) := fun i j a s => wrd_anchor
 have hnn : ∀ (k : Nat) (x : Ut), u.kids[k]? = some x → x.kind ≠ 7 → (renKs (callN u) (u.kids.map renum))[k]? = some (renum x) := fun k x hx h7 => by
   rw [kid_plain hvu hx h7, List.getElem?_map, hx]; rfl
 have hnk : ∀ (k : Nat) (x : Ut), u.kids[k]? = some x → x.kind = 7 → ∃ i : Nat, (labL u.words)[i]? = some x.label ∧ (renKs (callN u) (u.kids.map renum))[k]? = some (relab (renum x) (decS (i + 1))) := fun k x hx h7 => by
   obtain ⟨i, h1, h2⟩ := hvu.note hx h7
   exact ⟨i, h2, by rw [kid_note hvu h1, List.getElem?_map, hx]; rfl⟩
 have hren := renum_eq u
 rw [show (ancL u.words).map Prod.fst = posL u.words from rfl] at hren
 generalize renWs (posL u.words) u.words = W at hwl hwp hwa hren
 generalize renKs (callN u) (u.kids.map renum) = K at hkn hnn hnk hren
 have hW2 : (W.map wdv).length = W.length := List.length_map _
 have hK2 : (K.map uv).length = K.length := List.length_map _
 have hlab90 : (labL u.words).length ≤ 90 := by unfold labL; rw [List.length_map]; omega
 have hlnd := hvu.lnd
 rw [hren, uv_mk]
 rw [hue] at hA ⊢
 refine PC.of_va (T := tbe) eqf_ok tbm_ok rfl mixed Tryd.func26 rfl rfl (Nat.le_of_ble_eq_true rfl) ?_; intro Γ C WK LP fin h0 hW hC hB hR hLP hfin
 (try (conv => whnf)); (repeat ((first | refine qT ?_ | refine qF ?_ | refine qO ?_ | (with_reducible intro z hz); (first | (replace hz := hz (by omega); subst hz) | subst hz) | (refine CallV.mk _ (hC _ _ _ (PCw.of hA)) (fun js hjs => ?_); subst hjs)); (try (conv => whnf))))
 refine hLP _ _ _ Nat (fun k => ⟨[(1, .ptr 0 1 0), (2, .ptr 1 1 0), (3, .imm (.sl 1 (sv (labL u.words)))), (4, .row 3 1), (5, .imm (.int .i64 (k : Nat)))], [.box 1 [.imm (.int .i64 u.id.x), .imm (.int .i64 u.id.y), .imm (.int .i64 u.id.z), .imm (.int .i64 u.kind), .imm (.str u.label), .imm (.sl 4 (u.head.map wdv)), .imm (.sl 4 (u.words.map wdv)), .imm (.sl 8 (u.kids.map uv))], .box 1 [.imm (.int .i64 0), .imm (.int .i64 0), .imm (.int .i64 0), .imm (.int .i64 0), .imm (.str ⟨#[]⟩), .imm .nil, .imm .nil, .imm .nil], .dead 0, .row 52 4 1 (((W.take k).map wdv).map .imm)]⟩) (fun k => k ≤ u.words.length) (fun k => u.words.length - k) 0 (Nat.zero_le _) (((WeakA.row 3 ((((W.take 0).map wdv).map .imm)) rfl (by simp))).trans (qSL 4 rfl rfl)) ?_
 intro k hk
 have hho := Nat.lt_or_ge k u.words.length
 cases hho with
 | inl hlt =>
   obtain ⟨a, ha⟩ : ∃ a, u.words[k]? = some a := ⟨u.words[k], List.getElem?_eq_getElem hlt⟩
   have hP := ranchor_pc a.text (by have := hou.2.1 a (List.mem_of_getElem? ha); omega)
   have hRl : (((W.take k).map wdv).map PV.imm).length ≤ k := by rw [List.length_map, List.length_map, List.length_take]; omega
   have hOw : (((W.take k).map wdv).map PV.imm).length + 1 ≤ most := by unfold most; omega
   unfold ancS at hP
   cases hb : ancB a.text
   · rw [hb] at hP
     simp only [Bool.false_eq_true, if_false] at hP
     have hsn := take_at (hwp k a ha hb)
     (try (conv => whnf)); (repeat ((first | refine qT ?_ | refine qF ?_ | refine qO ?_ | (with_reducible intro z hz); (first | (replace hz := hz (by omega); subst hz) | subst hz)); (try (conv => whnf))))
     refine Idx.mk k (wdv a) _ rfl (by simp [ha]) rfl ?_
     (try (conv => whnf)); (repeat ((first | refine qT ?_ | refine qF ?_ | refine qO ?_ | (with_reducible intro z hz); (first | (replace hz := hz (by omega); subst hz) | subst hz) | (refine CallV.mk _ (hC _ _ _ (PCw.of hP)) (fun js hjs => ?_); subst hjs)); (try (conv => whnf))))
     exact ⟨k + 1, by omega, by dsimp only; omega, ((WeakA.row 3 ((((W.take (k + 1)).map wdv).map .imm)) rfl (by rw [hsn]; simp [wdv]))).trans ((WeakA.renew 3 1 rfl (by first | omega | (intro _; rw [hk0 _ _ rfl]; exact Nat.le_of_ble_eq_true rfl)) (by repeat (first | exact trivial | refine And.intro (rgL_imms _ _ _ _) ?_ | refine And.intro rfl ?_))).trans (qSL 4 rfl rfl))⟩
   · rw [hb] at hP
     simp only [if_true] at hP
     obtain ⟨i, hi⟩ := anc_mem ha hb
     have hsn := take_at (hwa i k a _ ha hi)
     have hli := (pos_of hi).2
     have hil := (List.getElem?_eq_some_iff.1 hli).1
     have hpc := place_pc (labL u.words) (restS a.text) (by omega)
     rw [idx_nodup hlnd hli] at hpc
     have hD := dig_pc (i + 1) (by omega)
     rw [show (((i + 1 : Nat)) : Int) = (i : Int) + 1 by omega] at hD
     have hsz := crt_size (i + 1)
     (try (conv => whnf)); (repeat ((first | refine qT ?_ | refine qF ?_ | refine qO ?_ | (with_reducible intro z hz); (first | (replace hz := hz (by omega); subst hz) | subst hz)); (try (conv => whnf))))
     refine Idx.mk k (wdv a) _ rfl (by simp [ha]) rfl ?_
     (try (conv => whnf)); (repeat ((first | refine qT ?_ | refine qF ?_ | refine qO ?_ | (with_reducible intro z hz); (first | (replace hz := hz (by omega); subst hz) | subst hz) | (refine CallV.mk _ (hC _ _ _ (PCw.of hP)) (fun js hjs => ?_); subst hjs) | (refine CallV.mk _ (hC _ _ _ (PCw.of hpc)) (fun js hjs => ?_); subst hjs) | (refine CallV.mk _ (hC _ _ _ (PCw.of hD)) (fun js hjs => ?_); subst hjs)); (try (conv => whnf))))
     exact ⟨k + 1, by omega, by dsimp only; omega, ((WeakA.row 3 ((((W.take (k + 1)).map wdv).map .imm)) rfl (by rw [hsn]; simp [wdv, retext, crt]))).trans ((WeakA.renew 3 1 rfl (by first | omega | (intro _; rw [hk0 _ _ rfl]; exact Nat.le_of_ble_eq_true rfl)) (by repeat (first | exact trivial | refine And.intro (rgL_imms _ _ _ _) ?_ | refine And.intro rfl ?_))).trans (qSL 4 rfl rfl))⟩
 | inr hge =>
   obtain rfl : k = u.words.length := by omega
   rw [← hwl, List.take_length]
   have hWl : ((W.map wdv).map PV.imm).length ≤ 100000 := by rw [List.length_map, List.length_map]; omega
   (try (conv => whnf)); (repeat ((first | refine qT ?_ | refine qF ?_ | refine qO ?_ | (with_reducible intro z hz); (first | (replace hz := hz (by omega); subst hz) | subst hz)); (try (conv => whnf))))
   refine hLP _ _ _ Nat (fun k => ⟨[(1, .ptr 0 1 0), (2, .ptr 1 1 0), (3, .imm (.sl 1 (sv (labL u.words)))), (4, .row 3 1), (9, .row 4 1), (10, .imm (.int .i64 (k : Nat)))], [.box 1 [.imm (.int .i64 u.id.x), .imm (.int .i64 u.id.y), .imm (.int .i64 u.id.z), .imm (.int .i64 u.kind), .imm (.str u.label), .imm (.sl 4 (u.head.map wdv)), .imm (.sl 4 (u.words.map wdv)), .imm (.sl 8 (u.kids.map uv))], .box 1 [.imm (.int .i64 0), .imm (.int .i64 0), .imm (.int .i64 0), .imm (.int .i64 0), .imm (.str ⟨#[]⟩), .imm .nil, .imm .nil, .imm .nil], .dead 0, .row 52 4 1 ((W.map wdv).map .imm), .row 27 8 1 (((K.take k).map uv).map .imm)]⟩) (fun k => k ≤ u.kids.length) (fun k => u.kids.length - k) 0 (Nat.zero_le _) (((WeakA.row 4 ((((K.take 0).map uv).map .imm)) rfl (by simp))).trans (qSL 5 rfl rfl)) ?_
   intro k hk
   have hho := Nat.lt_or_ge k u.kids.length
   cases hho with
   | inl hlt =>
     refine (?_ : ∀ Q : Exit → AS → Prop, vcS _ _ _ _ _ _ _ (loopQA _ _ _ _ _ _ Q)) _; intro Q
     obtain ⟨x, hx⟩ : ∃ x, u.kids[k]? = some x := ⟨u.kids[k], List.getElem?_eq_getElem hlt⟩
     have hux := uv_eq x
     have h1 := kid_lt' hx
     have hxm := List.mem_of_getElem? hx
     have hI := ih x (by omega) (by omega) (fun y hy => hok y (kid_all hxm hy)) (fun y hy => hgr y (kid_all hxm hy)) fun y hy => hva y (kid_all hxm hy)
     have hur := uv_eq (renum x)
     have hrk := renum_kind x
     have hrl := renum_label x
     have hRl : (((K.take k).map uv).map PV.imm).length ≤ k := by rw [List.length_map, List.length_map, List.length_take]; omega
     have hOw : (((K.take k).map uv).map PV.imm).length + 1 ≤ most := by unfold most; omega
     rw [hux, hur] at hI
     by_cases h7 : x.kind = 7
     · obtain ⟨i, hli, hki⟩ := hnk k x hx h7
       have hsn := take_at hki
       have hil := (List.getElem?_eq_some_iff.1 hli).1
       have hpc := place_pc (labL u.words) x.label (by omega)
       rw [idx_nodup hlnd hli] at hpc
       have hD := dig_pc (i + 1) (by omega)
       rw [show (((i + 1 : Nat)) : Int) = (i : Int) + 1 by omega] at hD
       rw [← hrl] at hpc
       have h7r : (renum x).kind = 7 := by rw [hrk]; exact h7
       have hre2 := uv_mk (renum x).id (renum x).kind (decS (i + 1)) (renum x).head (renum x).words (renum x).kids
       (try (conv => whnf)); (repeat ((first | refine qT ?_ | refine qF ?_ | refine qO ?_ | (with_reducible intro z hz); (first | (replace hz := hz (by omega); subst hz) | subst hz)); (try (conv => whnf))))
       refine Idx.mk k (uv x) _ rfl (by simp [hx]) (by rw [hux]; try rfl) ?_
       (try (conv => whnf)); (repeat ((first | refine qT ?_ | refine qF ?_ | refine qO ?_ | (with_reducible intro z hz); (first | (replace hz := hz (by omega); subst hz) | subst hz) | (refine CallV.mk _ (hC _ _ _ (PCw.of hI)) (fun js hjs => ?_); subst hjs) | (refine CallV.mk _ (hC _ _ _ (PCw.of hpc)) (fun js hjs => ?_); subst hjs) | (refine CallV.mk _ (hC _ _ _ (PCw.of hD)) (fun js hjs => ?_); subst hjs)); (try (conv => whnf))))
       exact ⟨k + 1, by omega, by dsimp only; omega, ((WeakA.row 4 ((((K.take (k + 1)).map uv).map .imm)) rfl (by rw [hsn]; unfold relab; simp [hre2]))).trans ((WeakA.renew 4 1 rfl (by first | omega | (intro _; rw [hk0 _ _ rfl]; exact Nat.le_of_ble_eq_true rfl)) (by repeat (first | exact trivial | refine And.intro (rgL_imms _ _ _ _) ?_ | refine And.intro rfl ?_))).trans (qSL 5 rfl rfl))⟩
     · have hsn := take_at (hnn k x hx h7)
       have h7r : (renum x).kind ≠ 7 := by rw [hrk]; exact h7
       (try (conv => whnf)); (repeat ((first | refine qT ?_ | refine qF ?_ | refine qO ?_ | (with_reducible intro z hz); (first | (replace hz := hz (by omega); subst hz) | subst hz)); (try (conv => whnf))))
       refine Idx.mk k (uv x) _ rfl (by simp [hx]) (by rw [hux]; try rfl) ?_
       (try (conv => whnf)); (repeat ((first | refine qT ?_ | refine qF ?_ | refine qO ?_ | (with_reducible intro z hz); (first | (replace hz := hz (by omega); subst hz) | subst hz) | (refine CallV.mk _ (hC _ _ _ (PCw.of hI)) (fun js hjs => ?_); subst hjs)); (try (conv => whnf))))
       exact ⟨k + 1, by omega, by dsimp only; omega, ((WeakA.row 4 ((((K.take (k + 1)).map uv).map .imm)) rfl (by rw [hsn]; simp [hur]))).trans ((WeakA.renew 4 1 rfl (by first | omega | (intro _; rw [hk0 _ _ rfl]; exact Nat.le_of_ble_eq_true rfl)) (by repeat (first | exact trivial | refine And.intro (rgL_imms _ _ _ _) ?_ | refine And.intro rfl ?_))).trans (qSL 5 rfl rfl))⟩
   | inr hge =>
     obtain rfl : k = u.kids.length := by omega
     rw [← hkn, List.take_length]
     (try (conv => whnf)); (repeat ((first | refine qT ?_ | refine qF ?_ | refine qO ?_ | (with_reducible intro z hz); (first | (replace hz := hz (by omega); subst hz) | subst hz)); (try (conv => whnf))))
     refine Imms.mk (W.map wdv) rfl ?_
     (try (conv => whnf)); (repeat ((first | refine qT ?_ | refine qF ?_ | refine qO ?_ | (with_reducible intro z hz); (first | (replace hz := hz (by omega); subst hz) | subst hz)); (try (conv => whnf))))
     refine Imms.mk (K.map uv) rfl ?_
     (try (conv => whnf)); (repeat ((first | refine qT ?_ | refine qF ?_ | refine qO ?_ | (with_reducible intro z hz); (first | (replace hz := hz (by omega); subst hz) | subst hz)); (try (conv => whnf))))
     exact hfin _ (ILes.refl _)
theorem renum_okN (N : Nat) : ∀ u : Ut, u.count ≤ N → okU u → okU (renum u) := by
 induction N with
 | zero => intro u h; have := count_pos u; omega
 | succ N ih =>
   intro u hN h y hy
   rw [renum_eq, all_mk] at hy
   rcases List.mem_cons.1 hy with rfl | hy
   · exact h u (by rw [Ut.all_eq]; exact List.mem_cons_self)
   · obtain ⟨z, hz, hyz⟩ := mem_alls.1 hy
     obtain ⟨i, hi⟩ := at_mem hz
     obtain ⟨x, hx, s, rfl⟩ := renKs_at _ _ _ _ hi
     rw [List.getElem?_map] at hx
     obtain ⟨v, hv, rfl⟩ := Option.map_eq_some_iff.1 hx
     have hvm := List.mem_of_getElem? hv
     have h1 := kid_lt' hv
     have hok := ih v (by omega) fun t ht => h t (kid_all hvm ht)
     rw [relab_all] at hyz
     rcases List.mem_cons.1 hyz with rfl | hyz
     · exact hok (renum v) (by rw [Ut.all_eq]; exact List.mem_cons_self)
     · exact hok y (by rw [Ut.all_eq]; exact List.mem_cons_of_mem _ hyz)
theorem renum_okU (u : Ut) (h : okU u) : okU (renum u) := renum_okN _ u (Nat.le_refl _) h
theorem zero_ok : okU zeroU := by
 intro y hy
 unfold zeroU at hy
 rw [all_mk] at hy
 simp only [Ut.alls, List.mem_singleton] at hy
 subst hy
 refine ⟨⟨?_, ?_, ?_⟩, ?_⟩ <;> (unfold inI; first | omega | (simp only [Ut.id, Ut.kind]; omega))
theorem lawRenumbers (u : Ut) (hu : okU u) : PC Tryd.prog env0 5 [uv u] [.bool true] := by
 have hA := awake_pc
 have hF := few_pc u 60 hu (by omega) (by omega)
 have hue := uv_eq u
 cases hb : fewU u 60
 · rw [hb] at hF
   rw [hue] at hF ⊢
   refine PC.of_va (T := tbe) eqf_ok tbm_ok rfl mixed Tryd.func5 rfl rfl (Nat.le_of_ble_eq_true rfl) ?_; intro Γ C WK LP fin h0 hW hC hB hR hLP hfin
   (try (conv => whnf)); (repeat ((first | refine qT ?_ | refine qF ?_ | refine qO ?_ | (with_reducible intro z hz); (first | (replace hz := hz (by omega); subst hz) | subst hz) | (refine CallV.mk _ (hC _ _ _ (PCw.of hA)) (fun js hjs => ?_); subst hjs) | (refine CallV.mk _ (hC _ _ _ (PCw.of hF)) (fun js hjs => ?_); subst hjs)); (try (conv => whnf))))
   exact hfin _ (ILes.refl _)
 rw [hb] at hF
 obtain ⟨hs, hok, hc⟩ := few_count hb
 have hRe := renumber_pc u hok (by omega) (good_of hs (by omega))
 have hCk := (rcheck_pcr 60 u hc (by omega) hok).pc
 have hfl : (fdsL u.all).length ≤ 500000000 := by
   have h := fdsL_len u.all hok
   rw [all_len] at h
   omega
 have hml : ((fdsL u.all).map fdv).length = (fdsL u.all).length := List.length_map _
 by_cases hL : fdsL u.all = []
 · have hn := number_pc 60 u hc (by omega) hok (good_of hs (by omega) hL) (val_all hL)
   have hsm := same_pc (renum u) (renum u) (renum_okU u hu) (renum_okU u hu)
   rw [decide_eq_true rfl] at hsm
   unfold renV at hRe
   rw [if_pos hL, decide_eq_true hL] at hRe
   rw [hL] at hCk
   have hre := uv_eq (renum u)
   rw [hre] at hRe hn hsm
   rw [hue] at hF hRe hCk hn ⊢
   refine PC.of_va (T := tbe) eqf_ok tbm_ok rfl mixed Tryd.func5 rfl rfl (Nat.le_of_ble_eq_true rfl) ?_; intro Γ C WK LP fin h0 hW hC hB hR hLP hfin
   (try (conv => whnf)); (repeat ((first | refine qT ?_ | refine qF ?_ | refine qO ?_ | (with_reducible intro z hz); (first | (replace hz := hz (by omega); subst hz) | subst hz) | (refine CallV.mk _ (hC _ _ _ (PCw.of hA)) (fun js hjs => ?_); subst hjs) | (refine CallV.mk _ (hC _ _ _ (PCw.of hF)) (fun js hjs => ?_); subst hjs) | (refine CallV.mk _ (hC _ _ _ (PCw.of hRe)) (fun js hjs => ?_); subst hjs) | (refine CallV.mk _ (hC _ _ _ (PCw.of hCk)) (fun js hjs => ?_); subst hjs) | (refine CallV.mk _ (hC _ _ _ (PCw.of hn)) (fun js hjs => ?_); subst hjs) | (refine CallV.mk _ (hC _ _ _ (PCw.of hsm)) (fun js hjs => ?_); subst hjs)); (try (conv => whnf))))
   exact hfin _ (ILes.refl _)
 · have hsm := PC.arg (args := [uv zeroU, .agg [.int .i64 0, .int .i64 0, .int .i64 0, .int .i64 0, .str ⟨#[]⟩, .nil, .nil, .nil]]) (same_pc zeroU zeroU zero_ok zero_ok) (.cons (ILe.refl _) (.cons zero_le (.refl _)))
   rw [decide_eq_true rfl] at hsm
   unfold renV at hRe
   rw [if_neg hL, decide_eq_false hL] at hRe
   have hl0 : (fdsL u.all).length ≠ 0 := fun h => hL (List.length_eq_zero_iff.1 h)
   have hze := uv_eq zeroU
   rw [hze] at hRe hsm
   generalize fdsL u.all = L at hCk hml hfl hl0
   rw [hue] at hF hRe hCk ⊢
   refine PC.of_va (T := tbe) eqf_ok tbm_ok rfl mixed Tryd.func5 rfl rfl (Nat.le_of_ble_eq_true rfl) ?_; intro Γ C WK LP fin h0 hW hC hB hR hLP hfin
   (try (conv => whnf)); (repeat ((first | refine qT ?_ | refine qF ?_ | refine qO ?_ | (with_reducible intro z hz); (first | (replace hz := hz (by omega); subst hz) | subst hz) | (refine CallV.mk _ (hC _ _ _ (PCw.of hA)) (fun js hjs => ?_); subst hjs) | (refine CallV.mk _ (hC _ _ _ (PCw.of hF)) (fun js hjs => ?_); subst hjs) | (refine CallV.mk _ (hC _ _ _ (PCw.of hRe)) (fun js hjs => ?_); subst hjs) | (refine CallV.mk _ (hC _ _ _ (PCw.of hCk)) (fun js hjs => ?_); subst hjs) | (refine CallV.mk _ (hC _ _ _ (PCw.of hsm)) (fun js hjs => ?_); subst hjs)); (try (conv => whnf))))
   exact hfin _ (ILes.refl _)
end Go.Proofs.YtkjgmnmngbfhhaaDoor.Pn
namespace Go.Proofs.YtkjgmnmngbfhhaaDoor.Pn
open Go Go.Pv Go.RowKit Go.Proofs.YtkjgmnmngbfhhaaDoor.Pb
set_option linter.unusedSimpArgs false
open Lab Lcs Go.Proofs.YtkjgmnmngbfhhaaDoor Go.Proofs.YtkjgmnmngbfhhaaDoor.Pu
set_option maxRecDepth 10000
set_option maxHeartbeats 16000000
theorem eq_word (d : Nat) (a b c : Int) (s : ByteArray) (x y z : Int) (t : ByteArray) (w : World) : (Op.equalIn (d + 3) 52 (.agg #[.string s, .int .i64 a, .int .i64 b, .int .i64 c]) (.agg #[.string t, .int .i64 x, .int .i64 y, .int .i64 z])).run Tryd.prog w = .ok (decide (s = t) && (decide (a = x) && (decide (b = y) && decide (c = z)))) w := by
 rw [run_equalIn_struct w (d + 2) 52 _ _ (by kernel_rfl) (by kernel_rfl)]
 simp only [Program.fieldsOf, Tryd.underlying52]
 have hs := str_dec s t
 have hm := fun w => eq_mark d a b c x y z w
 by_cases h1 : s = t
 rotate_left
 · simp [Op.eqFields, part, agg_str, run_equalIn_string _ _ _ _ _ und_str, hs, h1]
 by_cases h2 : (a = x ∧ b = y ∧ c = z)
 rotate_left
 · have h3 : (decide (a = x) && (decide (b = y) && decide (c = z))) = false := by
     by_cases h4 : a = x <;> by_cases h5 : b = y <;> by_cases h6 : c = z <;> simp_all
   rw [h3]
   simp [Op.eqFields, part, agg_str, agg_mark, size_mark, run_equalIn_string _ _ _ _ _ und_str, hs, h1, hm, h3]
 obtain ⟨rfl, rfl, rfl⟩ := h2
 simp [Op.eqFields, part, agg_str, agg_mark, size_mark, run_equalIn_string _ _ _ _ _ und_str, hs, h1, hm]
def eqw (t : TypeId) : Option (List CK) := if t = 52 then some [.str, .int .i64, .int .i64, .int .i64] else eqf t
theorem eqw_ok : EqsOK Tryd.prog eqw := by
 intro t ks h w x y is js xs ys Q h1 h2 h3 h4
 unfold eqw at h
 split at h
 · rename_i ht
   simp only [Option.some.injEq] at h
   subst h
   subst ht
   obtain ⟨s, _, rfl, ph11⟩ := shape_str h1
   obtain ⟨a, _, rfl, ph12⟩ := shape_int ph11
   obtain ⟨b, _, rfl, ph13⟩ := shape_int ph12
   obtain ⟨c, _, rfl, ph14⟩ := shape_int ph13
   obtain ⟨t, _, rfl, ph21⟩ := shape_str h2
   obtain ⟨x', _, rfl, ph22⟩ := shape_int ph21
   obtain ⟨y', _, rfl, ph23⟩ := shape_int ph22
   obtain ⟨z', _, rfl, ph24⟩ := shape_int ph23
   obtain rfl := shape_nil ph14
   obtain rfl := shape_nil ph24
   simp only [RepC, RepI] at h3 h4
   obtain ⟨_, _, rfl, _, rfl, _, _, rfl, _, rfl, _, _, rfl, _, rfl, _, _, rfl, _, rfl, rfl⟩ := h3
   obtain ⟨_, _, rfl, _, rfl, _, _, rfl, _, rfl, _, _, rfl, _, rfl, _, _, rfl, _, rfl, rfl⟩ := h4
   refine ⟨run_eqGuard_agg w _ _ _ _ _ _ (by kernel_rfl), run_eqGuard_agg w _ _ _ _ _ _ (by kernel_rfl), ?_⟩
   have := eq_word 9997 a b c s x' y' z' t w
   simpa [Op.equal, Op.maxDepth, eqC] using this
 · exact eqf_ok t ks h w x y is js xs ys Q h1 h2 h3 h4
def tbw : Tb := ⟨Pv.look tdl, eqw, fun _ => none, fun _ => [], fun _ => false, fun _ => 0⟩
theorem tbw_ok : ∀ t d, tbw.td t = some d → tdOf Tryd.prog t = some d := Pv.look_ok tdl_ok
theorem rows_pc (L : List Wd) (hl : L.length ≤ 100000000) : PC Tryd.prog env0 49 [.sl 4 (L.map wdv), .sl 4 (L.map wdv)] [.bool true] := by
 have hml : (L.map wdv).length = L.length := List.length_map _
 refine PC.of_va (T := tbw) eqw_ok tbw_ok rfl mixed Tryd.func49 rfl rfl (Nat.le_of_ble_eq_true rfl) ?_; intro Γ C WK LP fin h0 hW hC hB hR hLP hfin
 (try (conv => whnf)); (repeat ((first | refine qT ?_ | refine qF ?_ | refine qO ?_ | (with_reducible intro z hz); (first | (replace hz := hz (by omega); subst hz) | subst hz)); (try (conv => whnf))))
 refine hLP _ _ _ Nat (fun k => ⟨[(0, .imm (.sl 4 (L.map wdv))), (1, .imm (.sl 4 (L.map wdv))), (5, .imm (.int .i64 (k : Nat)))], []⟩) (fun k => k ≤ L.length) (fun k => L.length - k) 0 (Nat.zero_le _) (qSL 0 rfl rfl) ?_
 intro k hk
 have hho := Nat.lt_or_ge k L.length
 cases hho with
 | inr hge =>
   obtain rfl : k = L.length := by omega
   (try (conv => whnf)); (repeat ((first | refine qT ?_ | refine qF ?_ | refine qO ?_ | (with_reducible intro z hz); (first | (replace hz := hz (by omega); subst hz) | subst hz)); (try (conv => whnf))))
   exact hfin _ (ILes.refl _)
 | inl hlt =>
   obtain ⟨a, ha⟩ : ∃ x, L[k]? = some x := ⟨L[k], List.getElem?_eq_getElem hlt⟩
   have hwe : eqC [.str a.text, .int .i64 a.mark.x, .int .i64 a.mark.y, .int .i64 a.mark.z] [.str a.text, .int .i64 a.mark.x, .int .i64 a.mark.y, .int .i64 a.mark.z] = true := by simp [eqC]
   (try (conv => whnf)); (repeat ((first | refine qT ?_ | refine qF ?_ | refine qO ?_ | (with_reducible intro z hz); (first | (replace hz := hz (by omega); subst hz) | subst hz)); (try (conv => whnf))))
   refine Idx.mk k (wdv a) _ rfl (by simp [ha]) rfl ?_
   (try (conv => whnf)); (repeat ((first | refine qT ?_ | refine qF ?_ | refine qO ?_ | (with_reducible intro z hz); (first | (replace hz := hz (by omega); subst hz) | subst hz)); (try (conv => whnf))))
   refine Idx.mk k (wdv a) _ rfl (by simp [ha]) rfl ?_
   (try (conv => whnf)); (repeat ((first | refine qT ?_ | refine qF ?_ | refine qO ?_ | (with_reducible intro z hz); (first | (replace hz := hz (by omega); subst hz) | subst hz)); (try (conv => whnf))))
   exact ⟨k + 1, by omega, by dsimp only; omega, (qSL 0 rfl rfl)⟩
theorem anc_dec : ∀ n : Nat, n < 100 → 1 ≤ n → ancB (crt ++ decS n) = true ∧ restS (crt ++ decS n) = decS n := by decide +kernel
theorem relab_self (x : Ut) : relab x x.label = x := by cases x; rfl
theorem kept_pc (N : Nat) : ∀ (u : Ut) (s : Str), u.count ≤ N → OkT u → GoodR u → (∀ x ∈ u.all, ValU x) → (s = u.label ∨ u.kind = 7) → PC Tryd.prog env0 28 [uv u, uv (relab (renum u) s)] [.bool true] := by
 induction N with
 | zero => intro u s h; have := count_pos u; omega
 | succ N ih =>
 intro u s hN hok hgr hva hsl
 have hue := uv_eq u
 have hmem : u ∈ u.all := by rw [Ut.all_eq]; exact List.mem_cons_self
 have hou := hok u hmem
 have hvu := hva u hmem
 obtain ⟨hgl, hw90, hh90⟩ := hgr u hmem
 have hw := hou.1
 have hk0 := hou.2.2
 have hwl : (renWs (posL u.words) u.words).length = u.words.length := renWs_len _ _
 have hkn : (renKs (callN u) (u.kids.map renum)).length = u.kids.length := by
   have h := renKs_len (callN u).zipIdx (u.kids.map renum)
   rw [List.length_map] at h
   exact h
 have hwp : ∀ (j : Nat) (a : Wd), u.words[j]? = some a → ancB a.text = false → (renWs (posL u.words) u.words)[j]? = some a := fun j a => wrd_plain
 have hwa : ∀ (i j : Nat) (a : Wd) (s : Str), u.words[j]? = some a → (ancL u.words)[i]? = some (j, s) → (renWs (posL u.words) u.words)[j]? = some (retext a (crt ++ decS (i + 1))) := fun i j a s => wrd_anchor
 have hnk : ∀ (k : Nat) (x : Ut), u.kids[k]? = some x → ∃ t, (t = x.label ∨ x.kind = 7) ∧ (renKs (callN u) (u.kids.map renum))[k]? = some (relab (renum x) t) := fun k x hx => by
   by_cases h7 : x.kind = 7
   · obtain ⟨i, h1, h2⟩ := hvu.note hx h7
     exact ⟨decS (i + 1), Or.inr h7, by rw [kid_note hvu h1, List.getElem?_map, hx]; rfl⟩
   · refine ⟨x.label, Or.inl rfl, ?_⟩
     rw [kid_plain hvu hx h7, List.getElem?_map, hx, ← renum_label x, relab_self]
     rfl
 have hren := renum_eq u
 rw [show (ancL u.words).map Prod.fst = posL u.words from rfl] at hren
 generalize renWs (posL u.words) u.words = W at hwl hwp hwa hren
 generalize renKs (callN u) (u.kids.map renum) = K at hkn hnk hren
 have hlab90 : (labL u.words).length ≤ 90 := by unfold labL; rw [List.length_map]; omega
 have hml : (u.words.map wdv).length = u.words.length := List.length_map _
 have hkl : (u.kids.map uv).length = u.kids.length := List.length_map _
 have hml2 : (W.map wdv).length = u.words.length := by rw [List.length_map, hwl]
 have hkl2 : (K.map uv).length = u.kids.length := by rw [List.length_map, hkn]
 have hRo := rows_pc u.head (by omega)
 have hid : eqC [.int .i64 u.id.x, .int .i64 u.id.y, .int .i64 u.id.z] [.int .i64 u.id.x, .int .i64 u.id.y, .int .i64 u.id.z] = true := by simp [eqC]
 rw [hren]
 show PC Tryd.prog env0 28 [uv u, uv (.mk u.id u.kind s u.head W K)] [.bool true]
 rw [uv_mk, hue]
 by_cases hlb : u.label = s
 · refine PC.of_va (T := tbw) eqw_ok tbw_ok rfl mixed Tryd.func28 rfl rfl (Nat.le_of_ble_eq_true rfl) ?_; intro Γ C WK LP fin h0 hW hC hB hR hLP hfin
   (try (conv => whnf)); (repeat ((first | refine qT ?_ | refine qF ?_ | refine qO ?_ | (with_reducible intro z hz); (first | (replace hz := hz (by omega); subst hz) | subst hz) | (refine CallV.mk _ (hC _ _ _ (PCw.of hRo)) (fun js hjs => ?_); subst hjs)); (try (conv => whnf))))
   refine hLP _ _ _ Nat (fun k => ⟨[(2, .ptr 0 1 0), (3, .ptr 1 1 0), (5, .imm (.int .i64 (k : Nat)))], [.box 1 [.imm (.int .i64 u.id.x), .imm (.int .i64 u.id.y), .imm (.int .i64 u.id.z), .imm (.int .i64 u.kind), .imm (.str u.label), .imm (.sl 4 (u.head.map wdv)), .imm (.sl 4 (u.words.map wdv)), .imm (.sl 8 (u.kids.map uv))], .box 1 [.imm (.int .i64 u.id.x), .imm (.int .i64 u.id.y), .imm (.int .i64 u.id.z), .imm (.int .i64 u.kind), .imm (.str s), .imm (.sl 4 (u.head.map wdv)), .imm (.sl 4 (W.map wdv)), .imm (.sl 8 (K.map uv))]]⟩) (fun k => k ≤ u.words.length) (fun k => u.words.length - k) 0 (Nat.zero_le _) (qSL 2 rfl rfl (hE := by (repeat ((conv => whnf); first | exact trivial | refine And.intro (by first | exact WkOne.any | exact WkOne.eq (by with_reducible rfl) rfl | exact WkOne.eq (congrArg (fun z => PV.imm (IV.int IntKind.i64 z)) (by first | omega | (simp [hml]; done) | (simp [hml]; omega))) rfl | exact WkOne.eq (by first | (simp [hml]; done) | fail) rfl | exact WkOne.eq rfl rfl | exact WkOne.le rfl (ILe.nil _)) ?_)))) ?_
   intro k hk
   have hho := Nat.lt_or_ge k u.words.length
   cases hho with
   | inl hlt =>
     obtain ⟨a, ha⟩ : ∃ a, u.words[k]? = some a := ⟨u.words[k], List.getElem?_eq_getElem hlt⟩
     have hP := ranchor_pc a.text (by have := hou.2.1 a (List.mem_of_getElem? ha); omega)
     have hmk : eqC [.int .i64 a.mark.x, .int .i64 a.mark.y, .int .i64 a.mark.z] [.int .i64 a.mark.x, .int .i64 a.mark.y, .int .i64 a.mark.z] = true := by simp [eqC]
     unfold ancS at hP
     cases hb : ancB a.text
     · rw [hb] at hP
       simp only [Bool.false_eq_true, if_false] at hP
       have hwk := hwp k a ha hb
       have hwe : eqC [.str a.text, .int .i64 a.mark.x, .int .i64 a.mark.y, .int .i64 a.mark.z] [.str a.text, .int .i64 a.mark.x, .int .i64 a.mark.y, .int .i64 a.mark.z] = true := by simp [eqC]
       (try (conv => whnf)); (repeat ((first | refine qT ?_ | refine qF ?_ | refine qO ?_ | (with_reducible intro z hz); (first | (replace hz := hz (by omega); subst hz) | subst hz)); (try (conv => whnf))))
       refine Idx.mk k (wdv a) _ rfl (by simp [ha]) rfl ?_
       (try (conv => whnf)); (repeat ((first | refine qT ?_ | refine qF ?_ | refine qO ?_ | (with_reducible intro z hz); (first | (replace hz := hz (by omega); subst hz) | subst hz) | (refine CallV.mk _ (hC _ _ _ (PCw.of hP)) (fun js hjs => ?_); subst hjs)); (try (conv => whnf))))
       refine Idx.mk k (wdv a) _ rfl (by simp [hwk]) rfl ?_
       (try (conv => whnf)); (repeat ((first | refine qT ?_ | refine qF ?_ | refine qO ?_ | (with_reducible intro z hz); (first | (replace hz := hz (by omega); subst hz) | subst hz) | (refine CallV.mk _ (hC _ _ _ (PCw.of hP)) (fun js hjs => ?_); subst hjs)); (try (conv => whnf))))
       refine Idx.mk k (wdv a) _ rfl (by simp [ha]) rfl ?_
       (try (conv => whnf)); (repeat ((first | refine qT ?_ | refine qF ?_ | refine qO ?_ | (with_reducible intro z hz); (first | (replace hz := hz (by omega); subst hz) | subst hz)); (try (conv => whnf))))
       refine Idx.mk k (wdv a) _ rfl (by simp [hwk]) rfl ?_
       (try (conv => whnf)); (repeat ((first | refine qT ?_ | refine qF ?_ | refine qO ?_ | (with_reducible intro z hz); (first | (replace hz := hz (by omega); subst hz) | subst hz)); (try (conv => whnf))))
       refine Idx.mk k (wdv a) _ rfl (by simp [ha]) rfl ?_
       (try (conv => whnf)); (repeat ((first | refine qT ?_ | refine qF ?_ | refine qO ?_ | (with_reducible intro z hz); (first | (replace hz := hz (by omega); subst hz) | subst hz)); (try (conv => whnf))))
       refine Idx.mk k (wdv a) _ rfl (by simp [hwk]) rfl ?_
       (try (conv => whnf)); (repeat ((first | refine qT ?_ | refine qF ?_ | refine qO ?_ | (with_reducible intro z hz); (first | (replace hz := hz (by omega); subst hz) | subst hz)); (try (conv => whnf))))
       exact ⟨k + 1, by omega, by dsimp only; omega, (qSL 2 rfl rfl)⟩
     · rw [hb] at hP
       simp only [if_true] at hP
       obtain ⟨i, hi⟩ := anc_mem ha hb
       have hwk := hwa i k a _ ha hi
       have hil := (List.getElem?_eq_some_iff.1 (pos_of hi).2).1
       obtain ⟨hab, har⟩ := anc_dec (i + 1) (by omega) (by omega)
       have hP2 := ranchor_pc (crt ++ decS (i + 1)) (by have := crt_size (i + 1); have h := ByteArray.size_append (a := crt) (b := decS (i + 1)); have h2 : crt.size = 1 := rfl; have h3 := dec_size (i + 1); omega)
       unfold ancS at hP2
       rw [hab, har] at hP2
       simp only [if_true] at hP2
       generalize crt ++ decS (i + 1) = t at hwk hP2
       (try (conv => whnf)); (repeat ((first | refine qT ?_ | refine qF ?_ | refine qO ?_ | (with_reducible intro z hz); (first | (replace hz := hz (by omega); subst hz) | subst hz)); (try (conv => whnf))))
       refine Idx.mk k (wdv a) _ rfl (by simp [ha]) rfl ?_
       (try (conv => whnf)); (repeat ((first | refine qT ?_ | refine qF ?_ | refine qO ?_ | (with_reducible intro z hz); (first | (replace hz := hz (by omega); subst hz) | subst hz) | (refine CallV.mk _ (hC _ _ _ (PCw.of hP)) (fun js hjs => ?_); subst hjs)); (try (conv => whnf))))
       refine Idx.mk k (wdv (retext a t)) _ rfl (by simp [hwk]) rfl ?_
       (try (conv => whnf)); (repeat ((first | refine qT ?_ | refine qF ?_ | refine qO ?_ | (with_reducible intro z hz); (first | (replace hz := hz (by omega); subst hz) | subst hz) | (refine CallV.mk _ (hC _ _ _ (PCw.of hP2)) (fun js hjs => ?_); subst hjs)); (try (conv => whnf))))
       refine Idx.mk k (wdv a) _ rfl (by simp [ha]) rfl ?_
       (try (conv => whnf)); (repeat ((first | refine qT ?_ | refine qF ?_ | refine qO ?_ | (with_reducible intro z hz); (first | (replace hz := hz (by omega); subst hz) | subst hz)); (try (conv => whnf))))
       refine Idx.mk k (wdv (retext a t)) _ rfl (by simp [hwk]) rfl ?_
       (try (conv => whnf)); (repeat ((first | refine qT ?_ | refine qF ?_ | refine qO ?_ | (with_reducible intro z hz); (first | (replace hz := hz (by omega); subst hz) | subst hz)); (try (conv => whnf))))
       exact ⟨k + 1, by omega, by dsimp only; omega, (qSL 2 rfl rfl)⟩
   | inr hge =>
     obtain rfl : k = u.words.length := by omega
     (try (conv => whnf)); (repeat ((first | refine qT ?_ | refine qF ?_ | refine qO ?_ | (with_reducible intro z hz); (first | (replace hz := hz (by omega); subst hz) | subst hz)); (try (conv => whnf))))
     refine hLP _ _ _ Nat (fun k => ⟨[(2, .ptr 0 1 0), (3, .ptr 1 1 0), (10, .imm (.int .i64 (k : Nat)))], [.box 1 [.imm (.int .i64 u.id.x), .imm (.int .i64 u.id.y), .imm (.int .i64 u.id.z), .imm (.int .i64 u.kind), .imm (.str u.label), .imm (.sl 4 (u.head.map wdv)), .imm (.sl 4 (u.words.map wdv)), .imm (.sl 8 (u.kids.map uv))], .box 1 [.imm (.int .i64 u.id.x), .imm (.int .i64 u.id.y), .imm (.int .i64 u.id.z), .imm (.int .i64 u.kind), .imm (.str s), .imm (.sl 4 (u.head.map wdv)), .imm (.sl 4 (W.map wdv)), .imm (.sl 8 (K.map uv))]]⟩) (fun k => k ≤ u.kids.length) (fun k => u.kids.length - k) 0 (Nat.zero_le _) (qSL 2 rfl rfl (hE := by (repeat ((conv => whnf); first | exact trivial | refine And.intro (by first | exact WkOne.any | exact WkOne.eq (by with_reducible rfl) rfl | exact WkOne.eq (congrArg (fun z => PV.imm (IV.int IntKind.i64 z)) (by first | omega | (simp [hml]; done) | (simp [hml]; omega))) rfl | exact WkOne.eq (by first | (simp [hml]; done) | fail) rfl | exact WkOne.eq rfl rfl | exact WkOne.le rfl (ILe.nil _)) ?_)))) ?_
     intro k hk
     have hho := Nat.lt_or_ge k u.kids.length
     cases hho with
     | inl hlt =>
       refine (?_ : ∀ Q : Exit → AS → Prop, vcS _ _ _ _ _ _ _ (loopQA _ _ _ _ _ _ Q)) _; intro Q
       obtain ⟨x, hx⟩ : ∃ x, u.kids[k]? = some x := ⟨u.kids[k], List.getElem?_eq_getElem hlt⟩
       have hux := uv_eq x
       have h1 := kid_lt' hx
       have hxm := List.mem_of_getElem? hx
       obtain ⟨t, ht, hky⟩ := hnk k x hx
       have hI := ih x t (by omega) (fun y hy => hok y (kid_all hxm hy)) (fun y hy => hgr y (kid_all hxm hy)) (fun y hy => hva y (kid_all hxm hy)) ht
       generalize relab (renum x) t = y at hI hky
       have huy := uv_eq y
       rw [hux, huy] at hI
       (try (conv => whnf)); (repeat ((first | refine qT ?_ | refine qF ?_ | refine qO ?_ | (with_reducible intro z hz); (first | (replace hz := hz (by omega); subst hz) | subst hz)); (try (conv => whnf))))
       refine Idx.mk k (uv x) _ rfl (by simp [hx]) (by rw [hux]; try rfl) ?_
       (try (conv => whnf)); (repeat ((first | refine qT ?_ | refine qF ?_ | refine qO ?_ | (with_reducible intro z hz); (first | (replace hz := hz (by omega); subst hz) | subst hz)); (try (conv => whnf))))
       refine Idx.mk k (uv y) _ rfl (by rw [List.getElem?_map, hky]; rfl) (by rw [huy]) ?_
       (try (conv => whnf)); (repeat ((first | refine qT ?_ | refine qF ?_ | refine qO ?_ | (with_reducible intro z hz); (first | (replace hz := hz (by omega); subst hz) | subst hz) | (refine CallV.mk _ (hC _ _ _ (PCw.of hI)) (fun js hjs => ?_); subst hjs)); (try (conv => whnf))))
       exact ⟨k + 1, by omega, by dsimp only; omega, (qSL 2 rfl rfl)⟩
     | inr hge =>
       obtain rfl : k = u.kids.length := by omega
       (try (conv => whnf)); (repeat ((first | refine qT ?_ | refine qF ?_ | refine qO ?_ | (with_reducible intro z hz); (first | (replace hz := hz (by omega); subst hz) | subst hz)); (try (conv => whnf))))
       exact hfin _ (ILes.refl _)
 · have h7 : u.kind = 7 := by
     rcases hsl with h | h
     · exact absurd h.symm hlb
     · exact h
   refine PC.of_va (T := tbw) eqw_ok tbw_ok rfl mixed Tryd.func28 rfl rfl (Nat.le_of_ble_eq_true rfl) ?_; intro Γ C WK LP fin h0 hW hC hB hR hLP hfin
   (try (conv => whnf)); (repeat ((first | refine qT ?_ | refine qF ?_ | refine qO ?_ | (with_reducible intro z hz); (first | (replace hz := hz (by omega); subst hz) | subst hz) | (refine CallV.mk _ (hC _ _ _ (PCw.of hRo)) (fun js hjs => ?_); subst hjs)); (try (conv => whnf))))
   refine hLP _ _ _ Nat (fun k => ⟨[(2, .ptr 0 1 0), (3, .ptr 1 1 0), (5, .imm (.int .i64 (k : Nat)))], [.box 1 [.imm (.int .i64 u.id.x), .imm (.int .i64 u.id.y), .imm (.int .i64 u.id.z), .imm (.int .i64 u.kind), .imm (.str u.label), .imm (.sl 4 (u.head.map wdv)), .imm (.sl 4 (u.words.map wdv)), .imm (.sl 8 (u.kids.map uv))], .box 1 [.imm (.int .i64 u.id.x), .imm (.int .i64 u.id.y), .imm (.int .i64 u.id.z), .imm (.int .i64 u.kind), .imm (.str s), .imm (.sl 4 (u.head.map wdv)), .imm (.sl 4 (W.map wdv)), .imm (.sl 8 (K.map uv))]]⟩) (fun k => k ≤ u.words.length) (fun k => u.words.length - k) 0 (Nat.zero_le _) (qSL 2 rfl rfl (hE := by (repeat ((conv => whnf); first | exact trivial | refine And.intro (by first | exact WkOne.any | exact WkOne.eq (by with_reducible rfl) rfl | exact WkOne.eq (congrArg (fun z => PV.imm (IV.int IntKind.i64 z)) (by first | omega | (simp [hml]; done) | (simp [hml]; omega))) rfl | exact WkOne.eq (by first | (simp [hml]; done) | fail) rfl | exact WkOne.eq rfl rfl | exact WkOne.le rfl (ILe.nil _)) ?_)))) ?_
   intro k hk
   have hho := Nat.lt_or_ge k u.words.length
   cases hho with
   | inl hlt =>
     obtain ⟨a, ha⟩ : ∃ a, u.words[k]? = some a := ⟨u.words[k], List.getElem?_eq_getElem hlt⟩
     have hP := ranchor_pc a.text (by have := hou.2.1 a (List.mem_of_getElem? ha); omega)
     have hmk : eqC [.int .i64 a.mark.x, .int .i64 a.mark.y, .int .i64 a.mark.z] [.int .i64 a.mark.x, .int .i64 a.mark.y, .int .i64 a.mark.z] = true := by simp [eqC]
     unfold ancS at hP
     cases hb : ancB a.text
     · rw [hb] at hP
       simp only [Bool.false_eq_true, if_false] at hP
       have hwk := hwp k a ha hb
       have hwe : eqC [.str a.text, .int .i64 a.mark.x, .int .i64 a.mark.y, .int .i64 a.mark.z] [.str a.text, .int .i64 a.mark.x, .int .i64 a.mark.y, .int .i64 a.mark.z] = true := by simp [eqC]
       (try (conv => whnf)); (repeat ((first | refine qT ?_ | refine qF ?_ | refine qO ?_ | (with_reducible intro z hz); (first | (replace hz := hz (by omega); subst hz) | subst hz)); (try (conv => whnf))))
       refine Idx.mk k (wdv a) _ rfl (by simp [ha]) rfl ?_
       (try (conv => whnf)); (repeat ((first | refine qT ?_ | refine qF ?_ | refine qO ?_ | (with_reducible intro z hz); (first | (replace hz := hz (by omega); subst hz) | subst hz) | (refine CallV.mk _ (hC _ _ _ (PCw.of hP)) (fun js hjs => ?_); subst hjs)); (try (conv => whnf))))
       refine Idx.mk k (wdv a) _ rfl (by simp [hwk]) rfl ?_
       (try (conv => whnf)); (repeat ((first | refine qT ?_ | refine qF ?_ | refine qO ?_ | (with_reducible intro z hz); (first | (replace hz := hz (by omega); subst hz) | subst hz) | (refine CallV.mk _ (hC _ _ _ (PCw.of hP)) (fun js hjs => ?_); subst hjs)); (try (conv => whnf))))
       refine Idx.mk k (wdv a) _ rfl (by simp [ha]) rfl ?_
       (try (conv => whnf)); (repeat ((first | refine qT ?_ | refine qF ?_ | refine qO ?_ | (with_reducible intro z hz); (first | (replace hz := hz (by omega); subst hz) | subst hz)); (try (conv => whnf))))
       refine Idx.mk k (wdv a) _ rfl (by simp [hwk]) rfl ?_
       (try (conv => whnf)); (repeat ((first | refine qT ?_ | refine qF ?_ | refine qO ?_ | (with_reducible intro z hz); (first | (replace hz := hz (by omega); subst hz) | subst hz)); (try (conv => whnf))))
       refine Idx.mk k (wdv a) _ rfl (by simp [ha]) rfl ?_
       (try (conv => whnf)); (repeat ((first | refine qT ?_ | refine qF ?_ | refine qO ?_ | (with_reducible intro z hz); (first | (replace hz := hz (by omega); subst hz) | subst hz)); (try (conv => whnf))))
       refine Idx.mk k (wdv a) _ rfl (by simp [hwk]) rfl ?_
       (try (conv => whnf)); (repeat ((first | refine qT ?_ | refine qF ?_ | refine qO ?_ | (with_reducible intro z hz); (first | (replace hz := hz (by omega); subst hz) | subst hz)); (try (conv => whnf))))
       exact ⟨k + 1, by omega, by dsimp only; omega, (qSL 2 rfl rfl)⟩
     · rw [hb] at hP
       simp only [if_true] at hP
       obtain ⟨i, hi⟩ := anc_mem ha hb
       have hwk := hwa i k a _ ha hi
       have hil := (List.getElem?_eq_some_iff.1 (pos_of hi).2).1
       obtain ⟨hab, har⟩ := anc_dec (i + 1) (by omega) (by omega)
       have hP2 := ranchor_pc (crt ++ decS (i + 1)) (by have := crt_size (i + 1); have h := ByteArray.size_append (a := crt) (b := decS (i + 1)); have h2 : crt.size = 1 := rfl; have h3 := dec_size (i + 1); omega)
       unfold ancS at hP2
       rw [hab, har] at hP2
       simp only [if_true] at hP2
       generalize crt ++ decS (i + 1) = t at hwk hP2
       (try (conv => whnf)); (repeat ((first | refine qT ?_ | refine qF ?_ | refine qO ?_ | (with_reducible intro z hz); (first | (replace hz := hz (by omega); subst hz) | subst hz)); (try (conv => whnf))))
       refine Idx.mk k (wdv a) _ rfl (by simp [ha]) rfl ?_
       (try (conv => whnf)); (repeat ((first | refine qT ?_ | refine qF ?_ | refine qO ?_ | (with_reducible intro z hz); (first | (replace hz := hz (by omega); subst hz) | subst hz) | (refine CallV.mk _ (hC _ _ _ (PCw.of hP)) (fun js hjs => ?_); subst hjs)); (try (conv => whnf))))
       refine Idx.mk k (wdv (retext a t)) _ rfl (by simp [hwk]) rfl ?_
       (try (conv => whnf)); (repeat ((first | refine qT ?_ | refine qF ?_ | refine qO ?_ | (with_reducible intro z hz); (first | (replace hz := hz (by omega); subst hz) | subst hz) | (refine CallV.mk _ (hC _ _ _ (PCw.of hP2)) (fun js hjs => ?_); subst hjs)); (try (conv => whnf))))
       refine Idx.mk k (wdv a) _ rfl (by simp [ha]) rfl ?_
       (try (conv => whnf)); (repeat ((first | refine qT ?_ | refine qF ?_ | refine qO ?_ | (with_reducible intro z hz); (first | (replace hz := hz (by omega); subst hz) | subst hz)); (try (conv => whnf))))
       refine Idx.mk k (wdv (retext a t)) _ rfl (by simp [hwk]) rfl ?_
       (try (conv => whnf)); (repeat ((first | refine qT ?_ | refine qF ?_ | refine qO ?_ | (with_reducible intro z hz); (first | (replace hz := hz (by omega); subst hz) | subst hz)); (try (conv => whnf))))
       exact ⟨k + 1, by omega, by dsimp only; omega, (qSL 2 rfl rfl)⟩
   | inr hge =>
     obtain rfl : k = u.words.length := by omega
     (try (conv => whnf)); (repeat ((first | refine qT ?_ | refine qF ?_ | refine qO ?_ | (with_reducible intro z hz); (first | (replace hz := hz (by omega); subst hz) | subst hz)); (try (conv => whnf))))
     refine hLP _ _ _ Nat (fun k => ⟨[(2, .ptr 0 1 0), (3, .ptr 1 1 0), (10, .imm (.int .i64 (k : Nat)))], [.box 1 [.imm (.int .i64 u.id.x), .imm (.int .i64 u.id.y), .imm (.int .i64 u.id.z), .imm (.int .i64 u.kind), .imm (.str u.label), .imm (.sl 4 (u.head.map wdv)), .imm (.sl 4 (u.words.map wdv)), .imm (.sl 8 (u.kids.map uv))], .box 1 [.imm (.int .i64 u.id.x), .imm (.int .i64 u.id.y), .imm (.int .i64 u.id.z), .imm (.int .i64 u.kind), .imm (.str s), .imm (.sl 4 (u.head.map wdv)), .imm (.sl 4 (W.map wdv)), .imm (.sl 8 (K.map uv))]]⟩) (fun k => k ≤ u.kids.length) (fun k => u.kids.length - k) 0 (Nat.zero_le _) (qSL 2 rfl rfl (hE := by (repeat ((conv => whnf); first | exact trivial | refine And.intro (by first | exact WkOne.any | exact WkOne.eq (by with_reducible rfl) rfl | exact WkOne.eq (congrArg (fun z => PV.imm (IV.int IntKind.i64 z)) (by first | omega | (simp [hml]; done) | (simp [hml]; omega))) rfl | exact WkOne.eq (by first | (simp [hml]; done) | fail) rfl | exact WkOne.eq rfl rfl | exact WkOne.le rfl (ILe.nil _)) ?_)))) ?_
     intro k hk
     have hho := Nat.lt_or_ge k u.kids.length
     cases hho with
     | inl hlt =>
       refine (?_ : ∀ Q : Exit → AS → Prop, vcS _ _ _ _ _ _ _ (loopQA _ _ _ _ _ _ Q)) _; intro Q
       obtain ⟨x, hx⟩ : ∃ x, u.kids[k]? = some x := ⟨u.kids[k], List.getElem?_eq_getElem hlt⟩
       have hux := uv_eq x
       have h1 := kid_lt' hx
       have hxm := List.mem_of_getElem? hx
       obtain ⟨t, ht, hky⟩ := hnk k x hx
       have hI := ih x t (by omega) (fun y hy => hok y (kid_all hxm hy)) (fun y hy => hgr y (kid_all hxm hy)) (fun y hy => hva y (kid_all hxm hy)) ht
       generalize relab (renum x) t = y at hI hky
       have huy := uv_eq y
       rw [hux, huy] at hI
       (try (conv => whnf)); (repeat ((first | refine qT ?_ | refine qF ?_ | refine qO ?_ | (with_reducible intro z hz); (first | (replace hz := hz (by omega); subst hz) | subst hz)); (try (conv => whnf))))
       refine Idx.mk k (uv x) _ rfl (by simp [hx]) (by rw [hux]; try rfl) ?_
       (try (conv => whnf)); (repeat ((first | refine qT ?_ | refine qF ?_ | refine qO ?_ | (with_reducible intro z hz); (first | (replace hz := hz (by omega); subst hz) | subst hz)); (try (conv => whnf))))
       refine Idx.mk k (uv y) _ rfl (by rw [List.getElem?_map, hky]; rfl) (by rw [huy]) ?_
       (try (conv => whnf)); (repeat ((first | refine qT ?_ | refine qF ?_ | refine qO ?_ | (with_reducible intro z hz); (first | (replace hz := hz (by omega); subst hz) | subst hz) | (refine CallV.mk _ (hC _ _ _ (PCw.of hI)) (fun js hjs => ?_); subst hjs)); (try (conv => whnf))))
       exact ⟨k + 1, by omega, by dsimp only; omega, (qSL 2 rfl rfl)⟩
     | inr hge =>
       obtain rfl : k = u.kids.length := by omega
       (try (conv => whnf)); (repeat ((first | refine qT ?_ | refine qF ?_ | refine qO ?_ | (with_reducible intro z hz); (first | (replace hz := hz (by omega); subst hz) | subst hz)); (try (conv => whnf))))
       exact hfin _ (ILes.refl _)
theorem lawPreservation (u : Ut) (hu : okU u) : PC Tryd.prog env0 7 [uv u] [.bool true] := by
 have hA := awake_pc
 have hF := few_pc u 60 hu (by omega) (by omega)
 have hue := uv_eq u
 cases hb : fewU u 60
 · rw [hb] at hF
   rw [hue] at hF ⊢
   refine PC.of_va (T := tbw) eqw_ok tbw_ok rfl mixed Tryd.func7 rfl rfl (Nat.le_of_ble_eq_true rfl) ?_; intro Γ C WK LP fin h0 hW hC hB hR hLP hfin
   (try (conv => whnf)); (repeat ((first | refine qT ?_ | refine qF ?_ | refine qO ?_ | (with_reducible intro z hz); (first | (replace hz := hz (by omega); subst hz) | subst hz) | (refine CallV.mk _ (hC _ _ _ (PCw.of hA)) (fun js hjs => ?_); subst hjs) | (refine CallV.mk _ (hC _ _ _ (PCw.of hF)) (fun js hjs => ?_); subst hjs)); (try (conv => whnf))))
   exact hfin _ (ILes.refl _)
 rw [hb] at hF
 obtain ⟨hs, hok, hc⟩ := few_count hb
 have hRe := renumber_pc u hok (by omega) (good_of hs (by omega))
 by_cases hL : fdsL u.all = []
 · have hk := kept_pc 60 u u.label hc hok (good_of hs (by omega) hL) (val_all hL) (Or.inl rfl)
   rw [← renum_label u, relab_self] at hk
   unfold renV at hRe
   rw [if_pos hL, decide_eq_true hL] at hRe
   have hre := uv_eq (renum u)
   rw [hre] at hRe hk
   rw [hue] at hF hRe hk ⊢
   refine PC.of_va (T := tbw) eqw_ok tbw_ok rfl mixed Tryd.func7 rfl rfl (Nat.le_of_ble_eq_true rfl) ?_; intro Γ C WK LP fin h0 hW hC hB hR hLP hfin
   (try (conv => whnf)); (repeat ((first | refine qT ?_ | refine qF ?_ | refine qO ?_ | (with_reducible intro z hz); (first | (replace hz := hz (by omega); subst hz) | subst hz) | (refine CallV.mk _ (hC _ _ _ (PCw.of hA)) (fun js hjs => ?_); subst hjs) | (refine CallV.mk _ (hC _ _ _ (PCw.of hF)) (fun js hjs => ?_); subst hjs) | (refine CallV.mk _ (hC _ _ _ (PCw.of hRe)) (fun js hjs => ?_); subst hjs) | (refine CallV.mk _ (hC _ _ _ (PCw.of hk)) (fun js hjs => ?_); subst hjs)); (try (conv => whnf))))
   exact hfin _ (ILes.refl _)
 · unfold renV at hRe
   rw [if_neg hL, decide_eq_false hL] at hRe
   have hze := uv_eq zeroU
   rw [hze] at hRe
   rw [hue] at hF hRe ⊢
   refine PC.of_va (T := tbw) eqw_ok tbw_ok rfl mixed Tryd.func7 rfl rfl (Nat.le_of_ble_eq_true rfl) ?_; intro Γ C WK LP fin h0 hW hC hB hR hLP hfin
   (try (conv => whnf)); (repeat ((first | refine qT ?_ | refine qF ?_ | refine qO ?_ | (with_reducible intro z hz); (first | (replace hz := hz (by omega); subst hz) | subst hz) | (refine CallV.mk _ (hC _ _ _ (PCw.of hA)) (fun js hjs => ?_); subst hjs) | (refine CallV.mk _ (hC _ _ _ (PCw.of hF)) (fun js hjs => ?_); subst hjs) | (refine CallV.mk _ (hC _ _ _ (PCw.of hRe)) (fun js hjs => ?_); subst hjs)); (try (conv => whnf))))
   exact hfin _ (ILes.refl _)
end Go.Proofs.YtkjgmnmngbfhhaaDoor.Pn
