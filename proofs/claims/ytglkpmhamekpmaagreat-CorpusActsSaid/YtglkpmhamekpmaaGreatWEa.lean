/-
  Corpus: numbers that occur more than once, by the program.
-/
import Derived.Shelf.Sort.Plain
import Derived.Shelf.Slices.In.SortNone
import Derived.Test.YtglkpmhamekpmaaGreatGh
import Derived.Test.YtglkpmhamekpmaaGreatSoo
namespace Go.Proofs.YtglkpmhamekpmaaGreat.Po
open Go Go.Pv Go.RowKit
set_option linter.unusedSimpArgs false
open Lab Lcs Go.Proofs.YtglkpmhamekpmaaGreat Go.Proofs.YtglkpmhamekpmaaGreat.Pu
set_option maxRecDepth 10000
set_option maxHeartbeats 32000000
theorem insZ_mem {x z : Int} {out : List Int} : z ∈ insZ x out ↔ z = x ∨ z ∈ out := by
 have ht := List.takeWhile_append_dropWhile (p := lessZ x) (l := out)
 unfold insZ
 split
 · rename_i h
   constructor
   · exact Or.inr
   · rintro (rfl | h')
     · rw [← ht]
       exact List.mem_append_right _ (List.mem_of_mem_head? h)
     · exact h'
 · rw [List.mem_append, List.mem_cons]
   constructor
   · rintro (h | rfl | h)
     · right; rw [← ht]; exact List.mem_append_left _ h
     · left; rfl
     · right; rw [← ht]; exact List.mem_append_right _ h
   · rintro (rfl | h)
     · right; left; rfl
     · rw [← ht] at h
       rcases List.mem_append.1 h with h | h
       · left; exact h
       · right; right; exact h
theorem insZ_sorted {x : Int} : ∀ {out : List Int}, out.Pairwise (· < ·) → (insZ x out).Pairwise (· < ·)
 | [], _ => by simp [insZ]
 | y :: out, h => by
   rw [List.pairwise_cons] at h
   by_cases hy : y < x
   · have hi : insZ x (y :: out) = y :: insZ x out := by
       unfold insZ lessZ
       simp only [List.dropWhile_cons, List.takeWhile_cons, decide_eq_true hy, if_true]
       split
       · rfl
       · rfl
     rw [hi, List.pairwise_cons]
     refine ⟨fun z hz => ?_, insZ_sorted h.2⟩
     rcases insZ_mem.1 hz with rfl | hz
     · exact hy
     · exact h.1 z hz
   · have hi : insZ x (y :: out) = if y = x then y :: out else x :: y :: out := by
       unfold insZ lessZ
       simp [List.dropWhile_cons, List.takeWhile_cons, hy]
     rw [hi]
     split
     · exact List.pairwise_cons.2 h
     · rw [List.pairwise_cons, List.pairwise_cons]
       refine ⟨fun z hz => ?_, h⟩
       rcases List.mem_cons.1 hz with rfl | hz
       · omega
       · have := h.1 z hz; omega
theorem keys_put {m : List (Int × Bool)} {x : Int} : (∀ z, z ∈ (putL m x true).map Prod.fst ↔ z = x ∨ z ∈ m.map Prod.fst) ∧ ((m.map Prod.fst).Nodup → ((putL m x true).map Prod.fst).Nodup) := by
 have hm : ∀ z, z ∈ (putL m x true).map Prod.fst ↔ z = x ∨ z ∈ m.map Prod.fst := fun z => by
   have h1 := lookL_none (k := z) (m := putL m x true)
   have h2 := lookL_none (k := z) (m := m)
   have h3 := lookL_put x z true m
   by_cases hz : x = z
   · subst hz
     rw [if_pos rfl] at h3
     rw [h3] at h1
     simp only [reduceCtorEq, false_iff, Classical.not_not] at h1
     exact ⟨fun _ => Or.inl rfl, fun _ => h1⟩
   · rw [if_neg hz] at h3
     rw [h3] at h1
     constructor
     · intro h
       right
       exact Classical.byContradiction fun hn => (h1.1 (h2.2 hn)) h
     · rintro (rfl | h)
       · exact absurd rfl hz
       · exact Classical.byContradiction fun hn => (h2.1 (h1.2 hn)) h
 refine ⟨hm, ?_⟩
 clear hm
 induction m with
 | nil => intro _; simp [putL]
 | cons p m ih =>
   intro hn
   rw [List.map_cons, List.nodup_cons] at hn
   unfold putL
   split
   · rename_i e
     rw [List.map_cons, List.nodup_cons]
     first | exact hn | (simp only at e ⊢; rw [← e]; exact hn)
   · rename_i e
     rw [List.map_cons, List.nodup_cons]
     refine ⟨fun h => ?_, ih hn.2⟩
     have h1 := lookL_none (k := p.1) (m := putL m x true)
     have h2 := lookL_none (k := p.1) (m := m)
     have h3 := lookL_put x p.1 true m
     rw [if_neg (fun h => e h.symm)] at h3
     rw [h3] at h1
     exact (h1.1 (h2.2 hn.1)) h
theorem tw_reps (row : List Ac) : ∀ k, k ≤ row.length → (twK row k).Pairwise (· < ·) ∧ ((rgK row k).reps.map Prod.fst).Nodup ∧ ∀ z, z ∈ twK row k ↔ z ∈ (rgK row k).reps.map Prod.fst
 | 0, _ => ⟨List.Pairwise.nil, by simp [rgK], fun z => by simp [twK, rgK]⟩
 | k + 1, hk => by
   obtain ⟨a, ha⟩ : ∃ a, row[k]? = some a := ⟨row[k], List.getElem?_eq_getElem (by omega)⟩
   obtain ⟨h1, h2, h3⟩ := tw_reps row k (by omega)
   have hn := rgK_none row k (by omega) a.num
   have hf := isF_iff ha
   rw [twK, ha, rgK_step ha]
   dsimp only
   unfold addA
   cases hl : lookL (rgK row k).acts a.num with
   | none =>
     rw [if_pos (hf.2 (hn.1 hl))]
     exact ⟨h1, h2, h3⟩
   | some b =>
     rw [if_neg (fun h => by rw [hn.2 (hf.1 h)] at hl; cases hl)]
     obtain ⟨g1, g2⟩ := keys_put (m := (rgK row k).reps) (x := a.num)
     exact ⟨insZ_sorted h1, g2 h2, fun z => by rw [insZ_mem, g1 z, h3 z]⟩
theorem sortedZ_uniq : ∀ {l l' : List Int}, l'.Perm l → l.Pairwise (· < ·) → l'.Pairwise (· ≤ ·) → l' = l
 | [], l', hp, _, _ => List.Perm.eq_nil hp
 | a :: l, [], hp, _, _ => by have := hp.length_eq; simp at this
 | a :: l, b :: l', hp, hs, hs' => by
   have hab : b = a := by
     rw [List.pairwise_cons] at hs hs'
     rcases List.mem_cons.1 (hp.subset List.mem_cons_self) with h | h
     · exact h
     · have h1 := hs.1 b h
       rcases List.mem_cons.1 (hp.symm.subset List.mem_cons_self) with h2 | h2
       · exact h2.symm
       · have := hs'.1 a h2
         omega
   subst hab
   rw [List.pairwise_cons] at hs hs'
   rw [sortedZ_uniq hp.cons_inv hs.2 hs'.2]
def srtZ (l : List Int) : List Int := l.mergeSort fun x y => decide (x ≤ y)
theorem srtZ_sorted (l : List Int) : (srtZ l).Pairwise (· ≤ ·) := by
 have h := List.pairwise_mergeSort (le := fun x y : Int => decide (x ≤ y)) (fun a b c h1 h2 => by simp only [decide_eq_true_eq] at *; omega) (fun a b => by simp only [Bool.or_eq_true, decide_eq_true_eq]; omega) l
 exact h.imp fun h => by simpa using h
theorem sortZ_pcb (L : List Int) (hL : L.length ≤ 1000000000) : PCB Tryz.prog env0 54 [.row 0 1] [.row 3 1 1 ((L.map kI).map .imm)] [] [.row 3 1 1 (((srtZ L).map kI).map .imm)] :=
 sortO_pcb enc1_int srtZ (fun l => List.length_mergeSort l) (enters_of Tryz.func54 rfl rfl)
   (fun w blk cap l hH hb hl => by
     have hcon := Go.Proofs.Any.slices_Sort_int Tryz.sortI blk 0 cap l w hH hb (by unfold most at hl; omega)
     change Calls Tryz.prog 54 _ _ _ at hcon
     exact hcon)
   (fun p cap w => by
     have hcon := Go.Proofs.Any.slices_Sort_int_none Tryz.sortI p cap w
     change Calls Tryz.prog 54 _ _ _ at hcon
     exact hcon)
   L (by unfold most; exact hL)
def nwD (f : FuncId) : Nat := bif Nat.beq f 54 then 1 else nwR f
noncomputable def tbd (hk : Nat → Bool) : Tb := ⟨Pv.look tdl, eqs, fun _ => none, fun _ => [], hk, nwD⟩
theorem tbd_ok {hk : Nat → Bool} : ∀ t d, (tbd hk).td t = some d → tdOf Tryz.prog t = some d := Pv.look_ok tdl_ok
theorem dups_of (l : List Gz) (hl : l.length ≤ 1000000) (hG : ∀ g ∈ l, SmG g) (hn : (regO l).reps.length ≤ 1000000) :
   PC Tryz.prog env0 15 [.sl 4 (l.map gzv)] [.sl 1 ((twR (allA l)).map kI)] := by
 have hRg := regOf_pcb l hl hG
 obtain ⟨hst, hnd, hme⟩ := tw_reps (allA l) (allA l).length (Nat.le_refl _)
 rw [show twK (allA l) (allA l).length = twR (allA l) from rfl] at hst hme
 have hrg : rgK (allA l) (allA l).length = regO l := by unfold rgK; rw [List.take_length, ← regO_all]
 rw [hrg] at hnd hme
 have hperm0 : ((regO l).reps.map Prod.fst).Perm (twR (allA l)) := (List.perm_ext_iff_of_nodup hnd (hst.imp fun h => by omega)).2 fun z => (hme z).symm
 clear hme hnd hrg
 generalize twR (allA l) = S at *
 generalize regO l = r at *
 refine PC.of_va (T := (tbd fun r => Nat.beq r 2)) eqs_ok tbd_ok rfl mixed Tryz.func15 rfl rfl (Nat.le_of_ble_eq_true rfl) ?_; intro Γ C WK LP fin h0 hW hC hB hR hLP hfin
 have h03 : Γ.n0 = 0 := h0
 (try (conv => whnf)); (repeat ((first | refine qT ?_ | refine qF ?_ | refine qO ?_ | (with_reducible intro z hz); (first | (replace hz := hz (by omega); subst hz) | subst hz)); (try (conv => whnf))))
 refine hW _ _ _ (WeakA.spare.trans WeakA.spare) ?_
 (try (conv => whnf)); (repeat ((first | refine qT ?_ | refine qF ?_ | refine qO ?_ | (with_reducible intro z hz); (first | (replace hz := hz (by omega); subst hz) | subst hz)); (try (conv => whnf))))
 refine CallB.mk ([.agg [.row 0 2, .row 1 2, .row 2 2]]) ([.map (.int .i64) 2 (mkL kI acv r.acts), .map (.int .i64) 2 (mkL kI IV.bool r.reps), .map kkC 2 (mkL kv2 eiv r.cors)]) (hB _ _ _ _ _ (hRg)) ?_
 (try (conv => whnf)); (repeat ((first | refine qT ?_ | refine qF ?_ | refine qO ?_ | (with_reducible intro z hz); (first | (replace hz := hz (by omega); subst hz) | subst hz)); (try (conv => whnf))))
 refine hLP _ _ _ (Bool × (Int × Bool) × List (Int × Bool) × List Int) (fun p => ⟨[(3, .row 4 1), (8, .ptr 3 1 0)], [.dead 78, .map kkC 78 (mkL kv2 eiv r.cors), .map (.int .i64) 1 (mkL kI acv r.acts), .map (.iter p.1) 1 (itLL kI IV.bool p.1 p.2.1 p.2.2.1), .row 3 1 1 ((p.2.2.2.map kI).map .imm)]⟩) (fun p => (p.2.2.2 ++ p.2.2.1.map Prod.fst).Perm S) (fun p => p.2.2.1.length) (false, (0, false), r.reps, []) (by simpa using hperm0) ((WeakA.nilSlot 3 3 1 (Nat.le_of_ble_eq_true rfl) rfl).trans ((WeakA.row 4 (((([] : List Int).map kI).map .imm)) rfl (by rfl)).trans (qSL 5 rfl rfl))) ?_
 rintro ⟨f, q, R, out⟩ hperm
 dsimp only at hperm ⊢
 have hle := left_itLL (kv := kI) (vv := IV.bool) f q R
 have hlen := hperm.length_eq
 have hlen0 := hperm0.length_eq
 rw [List.length_append, List.length_map] at hlen
 rw [List.length_map] at hlen0
 have hol : ((out.map kI).map PV.imm).length = out.length := by simp
 (try (conv => whnf)); (repeat ((first | refine qT ?_ | refine qF ?_ | refine qO ?_ | (with_reducible intro z hz); (first | (replace hz := hz (by omega); subst hz) | subst hz)); (try (conv => whnf))))
 refine NxK.mk (fun h0 => ?_) (fun i p hp => ?_)
 · rw [hle] at h0
   obtain rfl := mkL_none h0
   have hS := sortZ_pcb out (by omega)
   rw [show srtZ out = S from sortedZ_uniq ((List.mergeSort_perm ..).trans (by simpa using hperm)) hst (srtZ_sorted out)] at hS
   (try (conv => whnf)); (repeat ((first | refine qT ?_ | refine qF ?_ | refine qO ?_ | (with_reducible intro z hz); (first | (replace hz := hz (by omega); subst hz) | subst hz)); (try (conv => whnf))))
   refine Imms.mk (out.map kI) rfl ?_
   (try (conv => whnf)); (repeat ((first | refine qT ?_ | refine qF ?_ | refine qO ?_ | (with_reducible intro z hz); (first | (replace hz := hz (by omega); subst hz) | subst hz)); (try (conv => whnf))))
   refine CallB.mk ([]) ([.row 3 1 1 (S.map kI)]) (hB _ _ _ _ _ (hS)) ?_
   (try (conv => whnf)); (repeat ((first | refine qT ?_ | refine qF ?_ | refine qO ?_ | (with_reducible intro z hz); (first | (replace hz := hz (by omega); subst hz) | subst hz)); (try (conv => whnf))))
   refine Imms.mk (S.map kI) rfl ?_
   (try (conv => whnf)); (repeat ((first | refine qT ?_ | refine qF ?_ | refine qO ?_ | (with_reducible intro z hz); (first | (replace hz := hz (by omega); subst hz) | subst hz)); (try (conv => whnf))))
   exact hfin _ (ILes.refl _)
 · rw [hle] at hp
   obtain ⟨p, hq, rfl⟩ := mkL_at hp
   have hpe := erase_permL hq
   have hlt := hpe.length_eq
   rw [List.length_cons] at hlt
   (try (conv => whnf)); (repeat ((first | refine qT ?_ | refine qF ?_ | refine qO ?_ | (with_reducible intro z hz); (first | (replace hz := hz (by omega); subst hz) | subst hz)); (try (conv => whnf))))
   exact ⟨(true, p, R.eraseIdx i, out ++ [p.1]), by
     dsimp only
     rw [List.append_assoc]
     exact ((hpe.map Prod.fst).append_left out).trans hperm, by dsimp only; omega, by
     dsimp only
     exact ((WeakA.row 4 ((((out ++ [p.1]).map kI).map .imm)) rfl (by simp [kI])).trans ((WeakA.mapTo 3 ((itLL kI IV.bool true p (R.eraseIdx i))) rfl (by rw [hle, mkL_erase]; rfl)).trans ((WeakA.renew 4 1 rfl (by first | omega | (intro _; rw [hk0 _ _ rfl]; exact Nat.le_of_ble_eq_true rfl)) (by repeat (first | exact trivial | refine And.intro (rgL_imms _ _ _ _) ?_ | refine And.intro rfl ?_))).trans (qSL 5 rfl rfl))))⟩
end Go.Proofs.YtglkpmhamekpmaaGreat.Po
