/-
  Corpus: small gazettes; the law of enacted items. Corpus: copies of acts and items; the item of a reference, by the program. Corpus: the item of a reference, by the program. Corpus: the item of a reference, by the program and by the reference.
-/
import Derived.Test.YtglkpmhamekpmaaGreatWCy
namespace Go.Proofs.YtglkpmhamekpmaaGreat.Po
open Go Go.Pv Go.RowKit
set_option linter.unusedSimpArgs false
open Lab Lcs Go.Proofs.YtglkpmhamekpmaaGreat Go.Proofs.YtglkpmhamekpmaaGreat.Pu
set_option maxRecDepth 10000
set_option maxHeartbeats 32000000
theorem shortW_len {w : List Wd} (h : shortW w = true) : w.length ≤ 300 := by
 unfold shortW at h
 simp only [Bool.and_eq_true, decide_eq_true_eq] at h
 exact h.2
theorem small_cpU (N : Nat) : ∀ u : Ut, u.count ≤ N → N ≤ 1000 → u.all.all fewB = true → CpU u := by
 induction N with
 | zero => intro u h; have := count_pos u; omega
 | succ N ih =>
 intro u hN hN2 hall
 have hcu := Ut.count_eq u
 have hkl := kids_counts u.kids
 have h := hall
 rw [all_cons, Bool.and_eq_true] at h
 obtain ⟨h1, h2⟩ := h
 unfold fewB at h1
 simp only [Bool.and_eq_true] at h1
 have g1 := shortW_len h1.1.2
 have g2 := shortW_len h1.2
 refine .mk u ⟨by omega, by omega, by omega⟩ fun x hx => ?_
 rw [alls_all, List.all_eq_true] at h2
 obtain ⟨k, hk, rfl⟩ := List.getElem_of_mem hx
 have hkc := kid_lt' (List.getElem?_eq_getElem hk)
 exact ih _ (by omega) (by omega) (h2 _ (List.getElem_mem _))
theorem fewI_parts {x : It} (h : fewI x = true) : x.p.length ≤ 12 ∧ x.q.length ≤ 12 ∧ x.old.length ≤ 300 ∧ x.new.length ≤ 300 ∧ x.bys.length ≤ 2 ∧ x.fr.size ≤ 100 ∧ x.se.size ≤ 100 ∧ x.ev.size ≤ 100 ∧ fewU x.unit 30 = true ∧ fewIs x.bys = true := by
 rw [fewI_eq] at h
 simp only [Bool.and_eq_true] at h
 obtain ⟨h1, _, _, _, _, h2⟩ := h
 unfold headB at h1
 simp only [Bool.and_eq_true, decide_eq_true_eq] at h1
 obtain ⟨⟨a1, a2, a3, a4, a5, a6, a7, a8, a9⟩, a10⟩ := h1
 exact ⟨a1, a2, a3, a4, a9, a6, a7, a8, a10, h2⟩
theorem fewIs_mem : ∀ {l : List It}, fewIs l = true → ∀ x ∈ l, fewI x = true
 | [], _, _, h => by cases h
 | y :: l, h, x, hx => by
   rw [fewIs, Bool.and_eq_true, Bool.and_eq_true] at h
   rcases List.mem_cons.1 hx with rfl | hx
   · exact h.1.2
   · exact fewIs_mem h.2 x hx
theorem few_cpI {x : It} (hf : FitT x) : fewI x = true → CpI x := by
 induction hf with
 | mk x hu h1 hb ih =>
 intro h
 obtain ⟨a1, a2, a3, a4, a5, _, _, _, a6, a7⟩ := fewI_parts h
 obtain ⟨s1, s2, s3⟩ := few_small (m := 30) a6
 exact .mk x (small_cpU 30 x.unit s1 (by omega) s3) ⟨by omega, by omega, by omega, by omega, by omega⟩ fun y hy => ih y hy (fewIs_mem a7 y hy)
structure Few30 (l : List Gz) (m : Nat) : Prop where
 len : l.length ≤ 8
 acts : ∀ g ∈ l, g.acts.length ≤ 8
 cnt : numZ l ≤ m
 num : numAs (allA l) ≤ m
 fit : ∀ g ∈ l, ∀ a ∈ g.acts, FitA a
 all : ∀ g ∈ l, ∀ a ∈ g.acts, a.title.size ≤ 100 ∧ a.se.size ≤ 60 ∧ ∀ x ∈ a.items, fewI x = true
theorem num_all (l : List Gz) : numAs (allA l) = numZ l := by
 unfold numAs numZ allA
 induction l with
 | nil => rfl
 | cons g l ih =>
   rw [List.flatMap_cons, List.map_append, List.sum_append, ih, List.map_cons, List.sum_cons]
   rfl
theorem few30 {l : List Gz} {m : Nat} (hm : m ≤ 1000) (hf : ∀ g ∈ l, FitGz g) (h : fewZ l m = true) : Few30 l m := by
 unfold fewZ at h
 simp only [Bool.and_eq_true, decide_eq_true_eq] at h
 obtain ⟨h1, h2, h3⟩ := h
 rw [List.all_eq_true] at h2
 have hz : numZ l ≤ m := by omega
 have ha : ∀ g ∈ l, g.acts.length ≤ 8 ∧ ∀ a ∈ g.acts, okA a = true := fun g hg => by
   have := h2 g hg
   unfold okG at this
   simp only [Bool.and_eq_true, decide_eq_true_eq, List.all_eq_true] at this
   exact ⟨this.1.1, this.2⟩
 have hb : ∀ g ∈ l, ∀ a ∈ g.acts, a.title.size ≤ 100 ∧ a.se.size ≤ 60 ∧ ∀ x ∈ a.items, fewI x = true := fun g hg a hag => by
   have := (ha g hg).2 a hag
   unfold okA at this
   simp only [Bool.and_eq_true, decide_eq_true_eq, List.all_eq_true] at this
   exact ⟨this.1.1, this.1.2, this.2⟩
 refine ⟨h1, fun g hg => (ha g hg).1, hz, by rw [num_all]; exact hz, fun g hg a hag => ⟨?_, fun x hx => ?_⟩, hb⟩
 · obtain ⟨k, hk, rfl⟩ := List.getElem_of_mem hg
   obtain ⟨j, hj, rfl⟩ := List.getElem_of_mem hag
   have t1 : _ + numG l[k] ≤ numZ l := sum_atG (f := numG) (List.getElem?_eq_getElem hk)
   have t2 : _ + _ ≤ numG l[k] := sum_atG (f := fun a : Ac => a.items.length) (List.getElem?_eq_getElem hj)
   omega
 · exact few_cpI ((((hf g hg).2.2 a hag).2.2.2) x hx) ((hb g hg a hag).2.2 x hx)
def deeds (l : List Gz) : List Ei := deedR (actsR (allA l))
theorem actsK_mem (row : List Ac) : ∀ k a, a ∈ actsK row k → a ∈ row
 | 0, a, h => by cases h
 | k + 1, a, h => by
   rw [actsK] at h
   split at h
   · rename_i b hb
     split at h
     · rcases List.mem_cons.1 ((insA_perm b _).subset h) with rfl | h
       · exact List.mem_of_getElem? hb
       · exact actsK_mem row k a h
     · exact actsK_mem row k a h
   · exact actsK_mem row k a h
theorem actsR_mem {l : List Gz} {a : Ac} (h : a ∈ actsR (allA l)) : ∃ g ∈ l, a ∈ g.acts := by
 have := actsK_mem _ _ _ h
 unfold allA at this
 exact List.mem_flatMap.1 this
theorem actsK_num (row : List Ac) : ∀ k, ((actsK row k).map fun a => a.items.length).sum ≤ ((row.take k).map fun a => a.items.length).sum
 | 0 => by simp [actsK]
 | k + 1 => by
   have ih := actsK_num row k
   rw [actsK]
   split
   · rename_i a ha
     rw [sum_stepG (f := fun a : Ac => a.items.length) ha]
     split
     · have := ((insA_perm a (actsK row k)).map fun a => a.items.length).sum_nat
       rw [this, List.map_cons, List.sum_cons]
       omega
     · omega
   · have := sum_takeG (fun a : Ac => a.items.length) row (k + 1)
     rename_i hn
     rw [List.take_of_length_le (by rw [List.getElem?_eq_none_iff] at hn; omega)] at ih ⊢
     exact ih
theorem Few30.deedsLe {l : List Gz} {m : Nat} (h : Few30 l m) : ((actsR (allA l)).map fun a => a.items.length).sum ≤ m := by
 have h1 := actsK_num (allA l) (allA l).length
 rw [List.take_length] at h1
 exact Nat.le_trans h1 h.num
theorem Few30.small {l : List Gz} {m : Nat} (h : Few30 l m) : ∀ g ∈ l, SmG g := fun g hg => ⟨by have := h.acts g hg; omega, fun a ha => (h.fit g hg a ha).1⟩
theorem Few30.cp {l : List Gz} {m : Nat} (h : Few30 l m) : ∀ e ∈ deeds l, CpI e.it := by
 have hg := good_reg h.fit
 intro e he
 unfold deeds at he
 rw [← items_reg] at he
 have he := (sortE_perm _).subset he
 unfold flatR flatA at he
 obtain ⟨p, hp, he⟩ := List.mem_flatMap.1 he
 obtain ⟨k, x, hx, rfl⟩ := eiA_mem he
 exact (corA_fit hg (hg.ok p hp)).2 x (List.mem_of_getElem? hx)
theorem Few30.items {l : List Gz} {m : Nat} (hm : m ≤ 1000) (h : Few30 l m) : PC Tryz.prog env0 41 [.sl 4 (l.map gzv)] [.sl 28 ((deeds l).map eiv)] := by
 have hl := h.len
 have hd := h.deedsLe
 have := items_of l (by omega) h.small h.fit (by rw [num_reg]; omega)
 rwa [items_reg] at this
theorem Few30.deeds {l : List Gz} {m : Nat} (hm : m ≤ 1000) (h : Few30 l m) : PC Tryz.prog env0 71 [.sl 4 (l.map gzv)] [.sl 28 ((deeds l).map eiv)] := by
 have hl := h.len
 have hd := h.deedsLe
 exact deeds_pc l (by omega) (fun g hg => by have := h.acts g hg; omega) (by omega)
end Go.Proofs.YtglkpmhamekpmaaGreat.Po
namespace Go.Proofs.YtglkpmhamekpmaaGreat.Po
open Go Go.Pv Go.RowKit
set_option linter.unusedSimpArgs false
open Lab Lcs Go.Proofs.YtglkpmhamekpmaaGreat Go.Proofs.YtglkpmhamekpmaaGreat.Pu
set_option maxRecDepth 10000
set_option maxHeartbeats 32000000
theorem eisL_at2 {n d : Int} {l : List It} {k : Nat} {x : It} (hx : l[k]? = some x) : (eisL n d 0 l)[k]? = some ⟨n, (k : Nat), d, x⟩ := by
 have h1 := eisL_take (n := n) (d := d) hx
 have hk := (List.getElem?_eq_some_iff.1 hx).1
 have h2 : (eisL n d 0 (l.take k)).length = k := by rw [eisL_len, List.length_take]; omega
 have h3 : eisL n d 0 l = eisL n d 0 (l.take (k + 1)) ++ eisL n d (0 + (l.take (k + 1)).length) (l.drop (k + 1)) := by rw [← eisL_app, List.take_append_drop]
 rw [h3, h1, List.append_assoc, List.getElem?_append_right (by omega), h2, Nat.sub_self]
 rfl
theorem copyOf_pc (a : Ac) (hl : a.items.length ≤ 1000000) (hc : ∀ x ∈ a.items, CpI x) : PC Tryz.prog env0 45 [acv a] [acv a] := by
 have hI := items_pc a hl hc
 have hlen : (eiA a).length = a.items.length := eisL_len a.num a.day a.items 0
 have hml : ((eiA a).map eiv).length = a.items.length := by rw [List.length_map, hlen]
 unfold acv at hI ⊢
 refine PC.of_va (T := tbr0) eqs_ok tbr_ok rfl mixed Tryz.func45 rfl rfl (Nat.le_of_ble_eq_true rfl) ?_; intro Γ C WK LP fin h0 hW hC hB hR hLP hfin
 (try (conv => whnf)); (repeat ((first | refine qT ?_ | refine qF ?_ | refine qO ?_ | (with_reducible intro z hz); (first | (replace hz := hz (by omega); subst hz) | subst hz) | (refine CallV.mk _ (hC _ _ _ (PCw.of hI)) (fun js hjs => ?_); subst hjs)); (try (conv => whnf))))
 refine hLP _ _ _ Nat (fun k => ⟨[(1, .ptr 0 1 0), (2, .ptr 1 1 0), (3, .row 3 1), (7, .imm (.sl 28 ((eiA a).map eiv))), (8, .imm (.int .i64 (a.items.length : Nat))), (9, .imm (.int .i64 (k : Nat)))], [.box 1 [.imm (.int .i64 a.num), .imm (.str a.title), .imm (.int .i64 a.day), .imm (.int .i64 a.sk), .imm (.int .i64 a.sd), .imm (.str a.se), .imm (.sl 25 (a.items.map itv))], .box 1 [.imm (.int .i64 0), .imm (.str ⟨#[]⟩), .imm (.int .i64 0), .imm (.int .i64 0), .imm (.int .i64 0), .imm (.str ⟨#[]⟩), .imm .nil], .dead 0, .row 43 25 1 (((a.items.take k).map itv).map .imm)]⟩) (fun k => k ≤ a.items.length) (fun k => a.items.length - k) 0 (Nat.zero_le _) ((WeakA.nilSlot 3 43 25 (Nat.le_of_ble_eq_true rfl) rfl).trans ((WeakA.row 3 (((a.items.take 0).map itv).map .imm) rfl (by simp)).trans (qSL 4 rfl rfl (hE := by (repeat ((conv => whnf); first | exact trivial | refine And.intro (by first | exact WkOne.any | exact WkOne.eq (by with_reducible rfl) rfl | exact WkOne.eq (congrArg (fun z => PV.imm (IV.int IntKind.i64 z)) (by first | omega | (simp [hml]; done) | (simp [hml]; omega))) rfl | exact WkOne.eq (by first | (simp [hml]; done) | fail) rfl | exact WkOne.eq rfl rfl | exact WkOne.le rfl (ILe.nil _)) ?_)))))) ?_
 intro k hk
 have hho := Nat.lt_or_ge k a.items.length
 cases hho with
 | inl hlt =>
   obtain ⟨x, hx⟩ : ∃ x, a.items[k]? = some x := ⟨a.items[k], List.getElem?_eq_getElem hlt⟩
   have hex : ((eiA a).map eiv)[k]? = some (eiv ⟨a.num, (k : Nat), a.day, x⟩) := by rw [List.getElem?_map]; unfold eiA; rw [eisL_at2 hx]; rfl
   have hst := take_at hx
   have hrl : (((a.items.take k).map itv).map PV.imm).length ≤ k := by
     rw [List.length_map, List.length_map, List.length_take]; omega
   generalize a.items.take k = R at *
   (try (conv => whnf)); (repeat ((first | refine qT ?_ | refine qF ?_ | refine qO ?_ | (with_reducible intro z hz); (first | (replace hz := hz (by omega); subst hz) | subst hz)); (try (conv => whnf))))
   refine Idx.mk k (eiv ⟨a.num, (k : Nat), a.day, x⟩) _ rfl hex (by rw [eiv_eq]) ?_
   (try (conv => whnf)); (repeat ((first | refine qT ?_ | refine qF ?_ | refine qO ?_ | (with_reducible intro z hz); (first | (replace hz := hz (by omega); subst hz) | subst hz)); (try (conv => whnf))))
   refine Owe.mk (by first | (show _ + 1 ≤ most; unfold most; omega) | (refine Or.inl ?_; show _ + 1 ≤ most; unfold most; omega)) ?_
   (try (conv => whnf)); (repeat ((first | refine qT ?_ | refine qF ?_ | refine qO ?_ | (with_reducible intro z hz); (first | (replace hz := hz (by omega); subst hz) | subst hz)); (try (conv => whnf))))
   refine ⟨k + 1, by omega, by dsimp only; omega, ?_⟩
   dsimp only []
   rw [hst]
   exact ((WeakA.row 3 (((R ++ [x]).map itv).map .imm) rfl (by simp [itv_eq]))).trans ((WeakA.renew 3 1 rfl (by first | omega | (intro _; rw [hk0 _ _ rfl]; exact Nat.le_of_ble_eq_true rfl)) (by repeat (first | exact trivial | refine And.intro (rgL_imms _ _ _ _) ?_ | refine And.intro rfl ?_))).trans (qSL 4 rfl rfl))
 | inr hge =>
   obtain rfl : k = a.items.length := by omega
   rw [List.take_length]
   (try (conv => whnf)); (repeat ((first | refine qT ?_ | refine qF ?_ | refine qO ?_ | (with_reducible intro z hz); (first | (replace hz := hz (by omega); subst hz) | subst hz)); (try (conv => whnf))))
   refine Imms.mk (a.items.map itv) rfl ?_
   (try (conv => whnf)); (repeat ((first | refine qT ?_ | refine qF ?_ | refine qO ?_ | (with_reducible intro z hz); (first | (replace hz := hz (by omega); subst hz) | subst hz)); (try (conv => whnf))))
   exact hfin _ (ILes.refl _)
abbrev agR (a : Ac) : PV := .agg [.imm (.int .i64 a.num), .imm (.str a.title), .imm (.int .i64 a.day), .imm (.int .i64 a.sk), .imm (.int .i64 a.sd), .imm (.str a.se), .row 0 1]
theorem itemsR_pcb (a : Ac) (hl : a.items.length ≤ 1000000) (hc : ∀ x ∈ a.items, CpI x) : PCB Tryz.prog env0 74 [agR a] [rwI 1 a.items] [.imm (.sl 28 ((eiA a).map eiv))] [rwI 1 a.items] := by
 have hml : ((a.items.map itv).map PV.imm).length = a.items.length := by simp
 unfold eiA
 refine PCB.of_va (T := (tbrf fun r => match r with | 7 => [2] | _ => [])) eqs_ok tbr_ok rfl mixed Tryz.func74 rfl rfl rfl (Nat.le_of_ble_eq_true rfl) rfl ?_; intro Γ C WK LP fin h0 hk0 hW hC hB hR hLP hfin
 have h03 : Γ.n0 = 1 := h0
 (try (conv => whnf)); (repeat ((first | refine qT ?_ | refine qF ?_ | refine qO ?_ | (with_reducible intro z hz); (first | (replace hz := hz (by omega); subst hz) | subst hz)); (try (conv => whnf))))
 refine hLP _ _ _ Nat (fun k => ⟨[(1, .ptr 1 1 0), (3, .row 2 1), (7, .row 0 1), (8, .imm (.int .i64 (a.items.length : Nat))), (9, .imm (.int .i64 (k : Nat)))], [rwI 1 a.items, .box 1 [.imm (.int .i64 a.num), .imm (.str a.title), .imm (.int .i64 a.day), .imm (.int .i64 a.sk), .imm (.int .i64 a.sd), .imm (.str a.se), .row 0 1], .row 57 28 1 (((eisL a.num a.day 0 (a.items.take k)).map eiv).map .imm)]⟩) (fun k => k ≤ a.items.length) (fun k => a.items.length - k) 0 (Nat.zero_le _) ((WeakA.nilSlot 3 57 28 (Nat.le_of_ble_eq_true rfl) rfl).trans ((WeakA.row 2 (((eisL a.num a.day 0 (a.items.take 0)).map eiv).map .imm) rfl (by simp [eisL])).trans (qSL 3 rfl rfl (hE := by (repeat ((conv => whnf); first | exact trivial | refine And.intro (by first | exact WkOne.any | exact WkOne.eq (by with_reducible rfl) rfl | exact WkOne.eq (congrArg (fun z => PV.imm (IV.int IntKind.i64 z)) (by first | omega | (simp [hml]; done) | (simp [hml]; omega))) rfl | exact WkOne.eq (by first | (simp [hml]; done) | fail) rfl | exact WkOne.eq rfl rfl | exact WkOne.le rfl (ILe.nil _)) ?_)))))) ?_
 intro k hk
 have hho := Nat.lt_or_ge k a.items.length
 cases hho with
 | inl hlt =>
   refine (?_ : ∀ Q : Exit → AS → Prop, vcS _ _ _ _ _ _ _ (loopQA _ _ _ _ _ _ Q)) _; intro Q
   obtain ⟨x, hx⟩ : ∃ x, a.items[k]? = some x := ⟨a.items[k], List.getElem?_eq_getElem hlt⟩
   have hC2 := copyItem_pc x (hc x (List.mem_of_getElem? hx))
   have hst := eisL_take (n := a.num) (d := a.day) hx
   have hrx : ((a.items.map itv).map PV.imm)[k]? = some (.imm (itv x)) := by simp [hx]
   have hrl : (((eisL a.num a.day 0 (a.items.take k)).map eiv).map PV.imm).length ≤ k := by
     rw [List.length_map, List.length_map, eisL_len, List.length_take]; omega
   rw [itv_eq x] at hC2 hrx
   generalize eisL a.num a.day 0 (a.items.take k) = R at *
   (try (conv => whnf)); (repeat ((first | refine qT ?_ | refine qF ?_ | refine qO ?_ | (with_reducible intro z hz); (first | (replace hz := hz (by omega); subst hz) | subst hz)); (try (conv => whnf))))
   refine Pos.mk k rfl (by omega) ?_
   (try (conv => whnf)); (repeat ((first | refine qT ?_ | refine qF ?_ | refine qO ?_ | (with_reducible intro z hz); (first | (replace hz := hz (by omega); subst hz) | subst hz)); (try (conv => whnf))))
   refine At.mk _ hrx ?_
   (try (conv => whnf)); (repeat ((first | refine qT ?_ | refine qF ?_ | refine qO ?_ | (with_reducible intro z hz); (first | (replace hz := hz (by omega); subst hz) | subst hz) | (refine CallV.mk _ (hC _ _ _ (PCw.of hC2)) (fun js hjs => ?_); subst hjs)); (try (conv => whnf))))
   refine Owe.mk (by first | (show _ + 1 ≤ most; unfold most; omega) | (refine Or.inl ?_; show _ + 1 ≤ most; unfold most; omega)) ?_
   (try (conv => whnf)); (repeat ((first | refine qT ?_ | refine qF ?_ | refine qO ?_ | (with_reducible intro z hz); (first | (replace hz := hz (by omega); subst hz) | subst hz)); (try (conv => whnf))))
   refine ⟨k + 1, by omega, by dsimp only; omega, ?_⟩
   dsimp only []
   rw [hst]
   exact ((WeakA.row 2 (((R ++ [(⟨a.num, (k : Nat), a.day, x⟩ : Ei)]).map eiv).map .imm) rfl (by simp [eiv]))).trans ((WeakA.renew 2 1 rfl (by first | omega | (intro _; rw [hk0 _ _ rfl]; exact Nat.le_of_ble_eq_true rfl)) (by repeat (first | exact trivial | refine And.intro (rgL_imms _ _ _ _) ?_ | refine And.intro rfl ?_))).trans (qSL 3 rfl rfl))
 | inr hge =>
   obtain rfl : k = a.items.length := by omega
   rw [List.take_length]
   (try (conv => whnf)); (repeat ((first | refine qT ?_ | refine qF ?_ | refine qO ?_ | (with_reducible intro z hz); (first | (replace hz := hz (by omega); subst hz) | subst hz)); (try (conv => whnf))))
   refine Imms.mk ((eisL a.num a.day 0 a.items).map eiv) rfl ?_
   (try (conv => whnf)); (repeat ((first | refine qT ?_ | refine qF ?_ | refine qO ?_ | (with_reducible intro z hz); (first | (replace hz := hz (by omega); subst hz) | subst hz)); (try (conv => whnf))))
   exact hfin _ ((WeakA.row 0 (((a.items.map itv).map .imm)) rfl (by exact fzL_imm _ _ _ _)).trans (qSL 1 rfl rfl))
theorem copyOfR_pcb (a : Ac) (hl : a.items.length ≤ 1000000) (hc : ∀ x ∈ a.items, CpI x) : PCB Tryz.prog env0 45 [agR a] [rwI 1 a.items] [.imm (acv a)] [rwI 1 a.items] := by
 have hI := itemsR_pcb a hl hc
 unfold agR at hI ⊢
 have hlen : (eiA a).length = a.items.length := eisL_len a.num a.day a.items 0
 have hml : ((eiA a).map eiv).length = a.items.length := by rw [List.length_map, hlen]
 unfold acv
 refine PCB.of_va (T := (tbrf fun r => match r with | 7 => [4] | _ => [])) eqs_ok tbr_ok rfl mixed Tryz.func45 rfl rfl rfl (Nat.le_of_ble_eq_true rfl) rfl ?_; intro Γ C WK LP fin h0 hk0 hW hC hB hR hLP hfin
 have h03 : Γ.n0 = 1 := h0
 (try (conv => whnf)); (repeat ((first | refine qT ?_ | refine qF ?_ | refine qO ?_ | (with_reducible intro z hz); (first | (replace hz := hz (by omega); subst hz) | subst hz)); (try (conv => whnf))))
 refine Imms.mk (a.items.map itv) rfl ?_
 refine CallB.mk ([.imm (.sl 28 ((eiA a).map eiv))]) ([rwIC 1 a.items]) (hB _ _ _ _ _ (hI)) ?_
 (try (conv => whnf)); (repeat ((first | refine qT ?_ | refine qF ?_ | refine qO ?_ | (with_reducible intro z hz); (first | (replace hz := hz (by omega); subst hz) | subst hz)); (try (conv => whnf))))
 refine hLP _ _ _ Nat (fun k => ⟨[(1, .ptr 1 1 0), (2, .ptr 2 1 0), (3, .row 4 1), (7, .imm (.sl 28 ((eiA a).map eiv))), (8, .imm (.int .i64 (a.items.length : Nat))), (9, .imm (.int .i64 (k : Nat)))], [rwI 1 a.items, .box 1 [.imm (.int .i64 a.num), .imm (.str a.title), .imm (.int .i64 a.day), .imm (.int .i64 a.sk), .imm (.int .i64 a.sd), .imm (.str a.se), .row 0 1], .box 1 [.imm (.int .i64 0), .imm (.str ⟨#[]⟩), .imm (.int .i64 0), .imm (.int .i64 0), .imm (.int .i64 0), .imm (.str ⟨#[]⟩), .imm .nil], .dead 0, .row 43 25 1 (((a.items.take k).map itv).map .imm)]⟩) (fun k => k ≤ a.items.length) (fun k => a.items.length - k) 0 (Nat.zero_le _) ((WeakA.nilSlot 3 43 25 (Nat.le_of_ble_eq_true rfl) rfl).trans ((WeakA.row 4 (((a.items.take 0).map itv).map .imm) rfl (by simp)).trans (qSL 5 rfl rfl (hE := by (repeat ((conv => whnf); first | exact trivial | refine And.intro (by first | exact WkOne.any | exact WkOne.eq (by with_reducible rfl) rfl | exact WkOne.eq (congrArg (fun z => PV.imm (IV.int IntKind.i64 z)) (by first | omega | (simp [hml]; done) | (simp [hml]; omega))) rfl | exact WkOne.eq (by first | (simp [hml]; done) | fail) rfl | exact WkOne.eq rfl rfl | exact WkOne.le rfl (ILe.nil _)) ?_)))))) ?_
 intro k hk
 have hho := Nat.lt_or_ge k a.items.length
 cases hho with
 | inl hlt =>
   refine (?_ : ∀ Q : Exit → AS → Prop, vcS _ _ _ _ _ _ _ (loopQA _ _ _ _ _ _ Q)) _; intro Q
   obtain ⟨x, hx⟩ : ∃ x, a.items[k]? = some x := ⟨a.items[k], List.getElem?_eq_getElem hlt⟩
   have hex : ((eiA a).map eiv)[k]? = some (eiv ⟨a.num, (k : Nat), a.day, x⟩) := by rw [List.getElem?_map]; unfold eiA; rw [eisL_at2 hx]; rfl
   have hst := take_at hx
   have hrl : (((a.items.take k).map itv).map PV.imm).length ≤ k := by
     rw [List.length_map, List.length_map, List.length_take]; omega
   generalize a.items.take k = R at *
   (try (conv => whnf)); (repeat ((first | refine qT ?_ | refine qF ?_ | refine qO ?_ | (with_reducible intro z hz); (first | (replace hz := hz (by omega); subst hz) | subst hz)); (try (conv => whnf))))
   refine Idx.mk k (eiv ⟨a.num, (k : Nat), a.day, x⟩) _ rfl hex (by rw [eiv_eq]) ?_
   (try (conv => whnf)); (repeat ((first | refine qT ?_ | refine qF ?_ | refine qO ?_ | (with_reducible intro z hz); (first | (replace hz := hz (by omega); subst hz) | subst hz)); (try (conv => whnf))))
   refine Owe.mk (by first | (show _ + 1 ≤ most; unfold most; omega) | (refine Or.inl ?_; show _ + 1 ≤ most; unfold most; omega)) ?_
   (try (conv => whnf)); (repeat ((first | refine qT ?_ | refine qF ?_ | refine qO ?_ | (with_reducible intro z hz); (first | (replace hz := hz (by omega); subst hz) | subst hz)); (try (conv => whnf))))
   refine ⟨k + 1, by omega, by dsimp only; omega, ?_⟩
   dsimp only []
   rw [hst]
   exact ((WeakA.row 4 (((R ++ [x]).map itv).map .imm) rfl (by simp [itv_eq]))).trans ((WeakA.renew 4 1 rfl (by first | omega | (intro _; rw [hk0 _ _ rfl]; exact Nat.le_of_ble_eq_true rfl)) (by repeat (first | exact trivial | refine And.intro (rgL_imms _ _ _ _) ?_ | refine And.intro rfl ?_))).trans (qSL 5 rfl rfl))
 | inr hge =>
   obtain rfl : k = a.items.length := by omega
   rw [List.take_length]
   (try (conv => whnf)); (repeat ((first | refine qT ?_ | refine qF ?_ | refine qO ?_ | (with_reducible intro z hz); (first | (replace hz := hz (by omega); subst hz) | subst hz)); (try (conv => whnf))))
   refine Imms.mk (a.items.map itv) rfl ?_
   (try (conv => whnf)); (repeat ((first | refine qT ?_ | refine qF ?_ | refine qO ?_ | (with_reducible intro z hz); (first | (replace hz := hz (by omega); subst hz) | subst hz)); (try (conv => whnf))))
   exact hfin _ ((WeakA.row 0 (((a.items.map itv).map .imm)) rfl (by exact fzL_imm _ _ _ _)).trans (qSL 1 rfl rfl))
end Go.Proofs.YtglkpmhamekpmaaGreat.Po
namespace Go.Proofs.YtglkpmhamekpmaaGreat.Po
open Go Go.Pv Go.RowKit
set_option linter.unusedSimpArgs false
open Lab Lcs Go.Proofs.YtglkpmhamekpmaaGreat Go.Proofs.YtglkpmhamekpmaaGreat.Pu
set_option maxRecDepth 10000
set_option maxHeartbeats 32000000
def findR (r : Rg) (n i : Int) : Option Ei := match lookL r.acts n with
 | none => none
 | some a => if 0 ≤ i then (match a.items[i.toNat]? with
   | none => none
   | some x => some ⟨n, i, a.day, corF r.cors a.num i x⟩) else none
def oeiv : Option Ei → IV
 | none => eivZ
 | some e => eiv e
theorem find_pcb (r : Rg) (n i : Int) (hm : OkC' r.cors) (hs : ∀ a, lookL r.acts n = some a → a.items.length ≤ 1000000) :
   PCB Tryz.prog env0 77 [.agg [.row 0 1, .row 1 1, .row 2 1], .imm (.int .i64 n), .imm (.int .i64 i)] (rgB r) [.imm (oeiv (findR r n i)), .imm (.bool (findR r n i).isSome)] (rgB r) := by
 have hk := look_act r.acts n
 cases hl : lookL r.acts n with
 | none =>
   rw [hl] at hk
   have hf : findR r n i = none := by unfold findR; rw [hl]
   rw [hf]
   refine PCB.of_va (T := tbr0) eqs_ok tbr_ok rfl mixed Tryz.func77 rfl rfl rfl (Nat.le_of_ble_eq_true rfl) rfl ?_; intro Γ C WK LP fin h0 hk0 hW hC hB hR hLP hfin
   have h03 : Γ.n0 = 3 := h0
   (try (conv => whnf)); (repeat ((first | refine qT ?_ | refine qF ?_ | refine qO ?_ | (with_reducible intro z hz); (first | (replace hz := hz (by omega); subst hz) | subst hz)); (try (conv => whnf))))
   refine LookK.mk acvZ false (by rw [hk]; rfl) (by rw [hk]; rfl) ?_
   (try (conv => whnf)); (repeat ((first | refine qT ?_ | refine qF ?_ | refine qO ?_ | (with_reducible intro z hz); (first | (replace hz := hz (by omega); subst hz) | subst hz)); (try (conv => whnf))))
   exact hfin _ (qSL 3 rfl rfl)
 | some a =>
   rw [hl] at hk
   have hsa := hs a hl
   have hmi : (a.items.map itv).length = a.items.length := List.length_map _
   by_cases h0i : 0 ≤ i
   rotate_left
   · have hf : findR r n i = none := by unfold findR; rw [hl]; exact if_neg h0i
     rw [hf]
     refine PCB.of_va (T := tbr0) eqs_ok tbr_ok rfl mixed Tryz.func77 rfl rfl rfl (Nat.le_of_ble_eq_true rfl) rfl ?_; intro Γ C WK LP fin h0 hk0 hW hC hB hR hLP hfin
     have h03 : Γ.n0 = 3 := h0
     (try (conv => whnf)); (repeat ((first | refine qT ?_ | refine qF ?_ | refine qO ?_ | (with_reducible intro z hz); (first | (replace hz := hz (by omega); subst hz) | subst hz)); (try (conv => whnf))))
     refine LookK.mk (acv a) true (by rw [hk]; rfl) (by rw [hk]; rfl) ?_
     unfold acv
     (try (conv => whnf)); (repeat ((first | refine qT ?_ | refine qF ?_ | refine qO ?_ | (with_reducible intro z hz); (first | (replace hz := hz (by omega); subst hz) | subst hz)); (try (conv => whnf))))
     exact hfin _ (qSL 3 rfl rfl)
   obtain ⟨k, rfl⟩ := Int.eq_ofNat_of_zero_le h0i
   by_cases hlt : k < a.items.length
   rotate_left
   · have hf : findR r n (k : Nat) = none := by
       unfold findR; rw [hl]; dsimp only
       rw [if_pos h0i, Int.toNat_natCast, List.getElem?_eq_none (by omega)]
     rw [hf]
     refine PCB.of_va (T := tbr0) eqs_ok tbr_ok rfl mixed Tryz.func77 rfl rfl rfl (Nat.le_of_ble_eq_true rfl) rfl ?_; intro Γ C WK LP fin h0 hk0 hW hC hB hR hLP hfin
     have h03 : Γ.n0 = 3 := h0
     (try (conv => whnf)); (repeat ((first | refine qT ?_ | refine qF ?_ | refine qO ?_ | (with_reducible intro z hz); (first | (replace hz := hz (by omega); subst hz) | subst hz)); (try (conv => whnf))))
     refine LookK.mk (acv a) true (by rw [hk]; rfl) (by rw [hk]; rfl) ?_
     unfold acv
     (try (conv => whnf)); (repeat ((first | refine qT ?_ | refine qF ?_ | refine qO ?_ | (with_reducible intro z hz); (first | (replace hz := hz (by omega); subst hz) | subst hz)); (try (conv => whnf))))
     exact hfin _ (qSL 3 rfl rfl)
   obtain ⟨x, hx⟩ : ∃ x, a.items[k]? = some x := ⟨a.items[k], List.getElem?_eq_getElem hlt⟩
   have hf : findR r n (k : Nat) = some ⟨n, (k : Nat), a.day, corF r.cors a.num (k : Nat) x⟩ := by
     unfold findR; rw [hl]; dsimp only
     rw [if_pos h0i, Int.toNat_natCast, hx]
   have hCo := corItem_pcb r a k x hx hm hsa
   rw [hf]
   generalize corF r.cors a.num (k : Nat) x = y at *
   unfold acv at hCo
   refine PCB.of_va (T := tbr0) eqs_ok tbr_ok rfl mixed Tryz.func77 rfl rfl rfl (Nat.le_of_ble_eq_true rfl) rfl ?_; intro Γ C WK LP fin h0 hk0 hW hC hB hR hLP hfin
   have h03 : Γ.n0 = 3 := h0
   (try (conv => whnf)); (repeat ((first | refine qT ?_ | refine qF ?_ | refine qO ?_ | (with_reducible intro z hz); (first | (replace hz := hz (by omega); subst hz) | subst hz)); (try (conv => whnf))))
   refine LookK.mk (acv a) true (by rw [hk]; rfl) (by rw [hk]; rfl) ?_
   unfold acv
   (try (conv => whnf)); (repeat ((first | refine qT ?_ | refine qF ?_ | refine qO ?_ | (with_reducible intro z hz); (first | (replace hz := hz (by omega); subst hz) | subst hz)); (try (conv => whnf))))
   refine CallB.mk ([.imm (itv y)]) (rgC r) (hB _ _ _ _ _ (hCo)) ?_
   rw [itv_eq y]
   (try (conv => whnf)); (repeat ((first | refine qT ?_ | refine qF ?_ | refine qO ?_ | (with_reducible intro z hz); (first | (replace hz := hz (by omega); subst hz) | subst hz)); (try (conv => whnf))))
   exact hfin _ (qSL 3 rfl rfl)
end Go.Proofs.YtglkpmhamekpmaaGreat.Po
namespace Go.Proofs.YtglkpmhamekpmaaGreat.Po
open Go Go.Pv Go.RowKit
set_option linter.unusedSimpArgs false
open Lab Lcs Go.Proofs.YtglkpmhamekpmaaGreat Go.Proofs.YtglkpmhamekpmaaGreat.Pu
set_option maxRecDepth 10000
set_option maxHeartbeats 32000000
theorem lookL_of {κ ν : Type} [DecidableEq κ] {k : κ} {v : ν} : ∀ {m : List (κ × ν)}, (m.map Prod.fst).Nodup → (k, v) ∈ m → lookL m k = some v
 | [], _, h => by cases h
 | p :: m, hn, h => by
   rw [List.map_cons, List.nodup_cons] at hn
   rcases List.mem_cons.1 h with h1 | h
   · rw [← h1]; simp [lookL]
   · have hne : ¬ p.1 = k := fun e => hn.1 (by rw [e]; exact List.mem_map_of_mem (f := Prod.fst) h)
     have := lookL_of hn.2 h
     unfold lookL
     simp [hne, this]
theorem corI_at (m : CorM) (n : Int) : ∀ (l : List It) (j k : Nat), (corI m n j l)[k]? = (l[k]?).map (corF m n ((j + k : Nat) : Int))
 | [], _, _ => by simp [corI]
 | x :: l, j, 0 => by simp [corI]
 | x :: l, j, k + 1 => by
   rw [corI, List.getElem?_cons_succ, List.getElem?_cons_succ, corI_at m n l (j + 1) k, show j + 1 + k = j + (k + 1) by omega]
def findL (d : List Ei) (n i : Int) : Option Ei := d.find? fun e => decide (e.act = n) && decide (e.item = i)
theorem findR_iff {Q : Ac → Prop} {r : Rg} (h : GoodR Q r) (n i : Int) (e : Ei) : findR r n i = some e ↔ e ∈ flatR r ∧ e.act = n ∧ e.item = i := by
 constructor
 · intro hf
   unfold findR at hf
   cases hl : lookL r.acts n with
   | none => rw [hl] at hf; cases hf
   | some a =>
     rw [hl] at hf
     dsimp only at hf
     by_cases h0 : 0 ≤ i
     · rw [if_pos h0] at hf
       cases hx : a.items[i.toNat]? with
       | none => rw [hx] at hf; cases hf
       | some x =>
         rw [hx] at hf
         have hm := lookL_mem hl
         have hn := h.key _ hm
         simp only at hn
         injection hf with hf
         subst hf
         refine ⟨?_, rfl, rfl⟩
         unfold flatR flatA
         refine List.mem_flatMap.2 ⟨_, hm, ?_⟩
         have hxi : (corA r.cors a).items[i.toNat]? = some (corF r.cors a.num i x) := by
           unfold corA
           dsimp only
           rw [corI_at, hx, Nat.zero_add, Int.toNat_of_nonneg h0]; rfl
         have := eiA_at hxi
         rw [Int.toNat_of_nonneg h0] at this
         rw [hn]
         exact this
     · rw [if_neg h0] at hf; cases hf
 · rintro ⟨he, rfl, rfl⟩
   unfold flatR flatA at he
   obtain ⟨p, hp, he⟩ := List.mem_flatMap.1 he
   obtain ⟨k, y, hy, rfl⟩ := eiA_mem he
   have hk := h.key p hp
   have hl : lookL r.acts p.2.num = some p.2 := lookL_of h.nodup (by rw [← hk]; exact hp)
   unfold corA at hy ⊢
   dsimp only at hy ⊢
   rw [corI_at, Nat.zero_add] at hy
   cases hx : p.2.items[k]? with
   | none => rw [hx] at hy; cases hy
   | some x =>
     rw [hx] at hy
     injection hy with hy
     unfold findR
     rw [hl]
     dsimp only
     rw [if_pos (Int.natCast_nonneg k), Int.toNat_natCast, hx]
     dsimp only
     rw [hy]
theorem flat_same {Q : Ac → Prop} {r : Rg} (h : GoodR Q r) {x y : Ei} (hx : x ∈ flatR r) (hy : y ∈ flatR r) (h1 : x.act = y.act) (h2 : x.item = y.item) : x = y := by
 have a := (findR_iff h y.act y.item x).2 ⟨hx, h1, h2⟩
 have b := (findR_iff h y.act y.item y).2 ⟨hy, rfl, rfl⟩
 rw [a] at b
 injection b
theorem findL_iff {d : List Ei} (hu : ∀ x ∈ d, ∀ y ∈ d, x.act = y.act → x.item = y.item → x = y) (n i : Int) (e : Ei) : findL d n i = some e ↔ e ∈ d ∧ e.act = n ∧ e.item = i := by
 unfold findL
 constructor
 · intro h
   have h1 := List.find?_some h
   have h2 := List.mem_of_find?_eq_some h
   simp only [Bool.and_eq_true, decide_eq_true_eq] at h1
   exact ⟨h2, h1⟩
 · rintro ⟨h1, h2, h3⟩
   cases hf : d.find? fun e => decide (e.act = n) && decide (e.item = i) with
   | none =>
     have := List.find?_eq_none.1 hf e h1
     simp [h2, h3] at this
   | some x =>
     have h4 := List.find?_some hf
     have h5 := List.mem_of_find?_eq_some hf
     simp only [Bool.and_eq_true, decide_eq_true_eq] at h4
     rw [hu x h5 e h1 (by rw [h4.1, h2]) (by rw [h4.2, h3])]
theorem deeds_perm (l : List Gz) : (deeds l).Perm (flatR (regO l)) := by
 unfold deeds
 rw [← items_reg]
 exact sortE_perm _
theorem opt_ext {α : Type} {a b : Option α} (h : ∀ x, a = some x ↔ b = some x) : a = b := by
 cases a with
 | none => cases b with
   | none => rfl
   | some y => exact absurd ((h y).2 rfl) (by simp)
 | some x => exact ((h x).1 rfl).symm
theorem find_eq {Q : Ac → Prop} (l : List Gz) (h : GoodR Q (regO l)) (n i : Int) : findR (regO l) n i = findL (deeds l) n i := by
 have hp := deeds_perm l
 refine opt_ext fun e => ?_
 rw [findR_iff h, findL_iff (fun x hx y hy => flat_same h (hp.subset hx) (hp.subset hy)), hp.mem_iff]
theorem numZ_take (l : List Gz) (k : Nat) : numZ (l.take k) ≤ numZ l := by
 unfold numZ
 exact sum_takeG _ _ _
theorem Few30.of {l l' : List Gz} {m : Nat} (h : Few30 l m) (hs : ∀ g ∈ l', g ∈ l) (hl : l'.length ≤ 8) (hn : numZ l' ≤ m) : Few30 l' m :=
 ⟨hl, fun g hg => h.acts g (hs g hg), hn, by rw [num_all]; exact hn, fun g hg => h.fit g (hs g hg), fun g hg => h.all g (hs g hg)⟩
theorem Few30.take {l : List Gz} {m : Nat} (h : Few30 l m) (k : Nat) : Few30 (l.take k) m :=
 h.of (fun g hg => List.take_subset _ _ hg) (by rw [List.length_take]; have := h.len; omega) (by have := numZ_take l k; have := h.cnt; omega)
theorem Few30.hs {l : List Gz} {m : Nat} (h : Few30 l m) (n : Int) : ∀ a, lookL (regO l).acts n = some a → a.items.length ≤ 1000000 := fun _ ha =>
 ((good_reg h.fit).ok _ (lookL_mem ha)).1
theorem Few30.findCp {l : List Gz} {m : Nat} (h : Few30 l m) {n i : Int} {e : Ei} (he : findL (Po.deeds l) n i = some e) : CpI e.it := h.cp e (List.mem_of_find?_eq_some he)
end Go.Proofs.YtglkpmhamekpmaaGreat.Po
