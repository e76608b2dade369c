/-
  What a valid tree gives; Renumber. The example of the chapter. The number of notes; the law of coverage.
-/
import Derived.Test.YtkjgmnmngbfhhaaDoorWFn
namespace Go.Proofs.YtkjgmnmngbfhhaaDoor.Pn
open Go Go.Pv Go.RowKit Go.Proofs.YtkjgmnmngbfhhaaDoor.Pb
set_option linter.unusedSimpArgs false
open Lab Lcs Go.Proofs.YtkjgmnmngbfhhaaDoor Go.Proofs.YtkjgmnmngbfhhaaDoor.Pu
set_option maxRecDepth 10000
set_option maxHeartbeats 16000000
theorem small_ok {m : Nat} {u : Ut} (h : Small m u) (hm : m ≤ 1000) : OkT u := by
 intro x hx
 have h4 := List.all_eq_true.1 h.2.2 x hx
 unfold fewB shortB at h4
 simp only [Bool.and_eq_true, decide_eq_true_eq, List.all_eq_true] at h4
 have h5 := sub_count _ u x (Nat.le_refl _) hx
 have h6 := kids_counts x.kids
 have h7 := Ut.count_eq x
 have h8 := h.1
 exact ⟨by omega, fun a ha => by have := h4.2.1 a ha; omega, by omega⟩
theorem calls_all {u : Ut} : ∀ (n : Nat) (l : List (Nat × Str)), l.length = n → badL u [] l = [] → (callsL u.kids l).length = l.length ∧ (callsL u.kids l).Nodup ∧ (∀ a ∈ l, ∃ k, noteO u.kids a.2 = some k) ∧ (l.map Prod.snd).Nodup := by
 intro n
 induction n with
 | zero => intro l hl _; obtain rfl := List.eq_nil_of_length_eq_zero hl; exact ⟨rfl, List.nodup_nil, by simp, by simp⟩
 | succ n ih =>
   intro L hL hb
   obtain ⟨r, x, rfl⟩ : ∃ r x, L = r ++ [x] := ⟨L.dropLast, L.getLast (by intro h; subst h; simp at hL), (List.dropLast_concat_getLast _).symm⟩
   rw [badL_snoc, List.append_eq_nil_iff] at hb
   obtain ⟨h1, h2, h3, h5⟩ := ih r (by simpa using hL) hb.1
   have hb2 := hb.2
   unfold badA at hb2
   cases hin : inB x.2 (r.map Prod.snd) with
   | true => rw [hin, if_pos rfl] at hb2; cases hb2
   | false =>
     rw [hin, if_neg (by simp)] at hb2
     cases hn : noteO u.kids x.2 with
     | none => rw [hn] at hb2; cases hb2
     | some k =>
       have hxn : x.2 ∉ r.map Prod.snd := fun hm => by rw [inB_mem.2 hm] at hin; cases hin
       rw [callsL_snoc, hin, if_neg (by simp), hn]
       refine ⟨by simp [h1], ?_, ?_, ?_⟩
       · rw [List.nodup_append]
         refine ⟨h2, by simp, fun m hm m' hm' e => ?_⟩
         simp only [Option.toList_some, List.mem_singleton] at hm'
         subst hm'
         subst e
         obtain ⟨a, ha, hak⟩ := callsL_mem.1 hm
         obtain ⟨y, hy, hi, _⟩ := noteO_some hn
         obtain ⟨y', hy', hi', _⟩ := noteO_some hak
         rw [hy] at hy'
         cases hy'
         unfold isNote at hi hi'
         simp only [Bool.and_eq_true, decide_eq_true_eq] at hi hi'
         exact hxn (List.mem_map.2 ⟨a, ha, hi'.2.symm.trans hi.2⟩)
       · intro a ha
         rcases List.mem_append.1 ha with ha | ha
         · exact h3 a ha
         · rw [List.mem_singleton.1 ha]; exact ⟨k, hn⟩
       · rw [List.map_append, List.nodup_append]
         refine ⟨h5, by simp, fun m hm m' hm' e => ?_⟩
         simp only [List.map_cons, List.map_nil, List.mem_singleton] at hm'
         subst hm'
         subst e
         exact hxn hm
theorem nodup_len {l : List Nat} {n : Nat} (hd : l.Nodup) (h : ∀ x ∈ l, x < n) : l.length ≤ n := by
 have := List.Nodup.length_le_of_subset (l₂ := List.range n) hd fun x hx => List.mem_range.2 (h x hx)
 simpa using this
theorem per_nil {u : Ut} (h : fdsL u.all = []) : ∀ x ∈ u.all, faultN x = [] ∧ lostN x = [] := by
 intro x hx
 have := List.flatMap_eq_nil_iff.1 h x hx
 unfold perC at this
 exact List.append_eq_nil_iff.1 this
theorem good_of {m : Nat} {u : Ut} (hs : Small m u) (hm : m ≤ 90) (h : fdsL u.all = []) : GoodR u := by
 intro x hx
 obtain ⟨h1, _⟩ := per_nil h x hx
 obtain ⟨h2, h3, _⟩ := calls_all _ (ancL x.words) rfl h1
 have h4 := nodup_len (n := x.kids.length) h3 fun n hn => by obtain ⟨y, hy, _⟩ := callN_at (u := x) hn; exact (List.getElem?_eq_some_iff.1 hy).1
 have h5 := sub_count _ u x (Nat.le_refl _) hx
 have h6 := kids_counts x.kids
 have h7 := Ut.count_eq x
 have h8 := hs.1
 have h9 := List.all_eq_true.1 hs.2.2 x hx
 unfold fewB shortB at h9
 simp only [Bool.and_eq_true, decide_eq_true_eq] at h9
 exact ⟨h2, by rw [← h2]; omega, by omega⟩
def renV (u : Ut) : Ut := if fdsL u.all = [] then renum u else zeroU
theorem renumber_pc (u : Ut) (hok : OkT u) (hM : u.count ≤ 1000) (hg : fdsL u.all = [] → GoodR u) : PC Tryd.prog env0 24 [uv u] [uv (renV u), .bool (decide (fdsL u.all = []))] := by
 have hV := fvalid_pc u hok hM
 have hue := uv_eq u
 unfold renV
 by_cases h : fdsL u.all = []
 · have hRe := renum_pc u.count u (Nat.le_refl _) hok (hg h)
   rw [decide_eq_true h] at hV ⊢
   rw [if_pos h]
   have hre := uv_eq (renum u)
   rw [hre] at hRe ⊢
   rw [hue] at hV hRe ⊢
   refine PC.of_va (T := tbe) eqf_ok tbm_ok rfl mixed Tryd.func24 rfl rfl (Nat.le_of_ble_eq_true rfl) ?_; intro Γ C WK LP fin h0 hW hC hB hR hLP hfin
   (try (conv => whnf)); (repeat ((first | refine qT ?_ | refine qF ?_ | refine qO ?_ | (with_reducible intro z hz); (first | (replace hz := hz (by omega); subst hz) | subst hz) | (refine CallV.mk _ (hC _ _ _ (PCw.of hV)) (fun js hjs => ?_); subst hjs) | (refine CallV.mk _ (hC _ _ _ (PCw.of hRe)) (fun js hjs => ?_); subst hjs)); (try (conv => whnf))))
   exact hfin _ (ILes.refl _)
 · rw [decide_eq_false h] at hV ⊢
   rw [if_neg h]
   rw [hue] at hV ⊢
   refine PC.of_va (T := tbe) eqf_ok tbm_ok rfl mixed Tryd.func24 rfl rfl (Nat.le_of_ble_eq_true rfl) ?_; intro Γ C WK LP fin h0 hW hC hB hR hLP hfin
   (try (conv => whnf)); (repeat ((first | refine qT ?_ | refine qF ?_ | refine qO ?_ | (with_reducible intro z hz); (first | (replace hz := hz (by omega); subst hz) | subst hz) | (refine CallV.mk _ (hC _ _ _ (PCw.of hV)) (fun js hjs => ?_); subst hjs)); (try (conv => whnf))))
   exact hfin _ (.cons zero_le (.refl _))
end Go.Proofs.YtkjgmnmngbfhhaaDoor.Pn
namespace Go.Proofs.YtkjgmnmngbfhhaaDoor.Pn
open Go Go.Pv Go.RowKit Go.Proofs.YtkjgmnmngbfhhaaDoor.Pb
set_option linter.unusedSimpArgs false
open Lab Lcs Go.Proofs.YtkjgmnmngbfhhaaDoor Go.Proofs.YtkjgmnmngbfhhaaDoor.Pu
set_option maxRecDepth 10000
set_option maxHeartbeats 16000000
def bs (l : List UInt8) : Str := ⟨l.toArray⟩
def wd0 (l : List UInt8) : Wd := ⟨bs l, ⟨0, 0, 0⟩⟩
def note0 (n : Int) (l : List UInt8) : Ut := .mk ⟨0, 0, n⟩ 7 (bs l) [] [] []
def sampU : Ut := .mk ⟨0, 0, 0⟩ 2 (bs [53]) [] [wd0 [102, 105, 110, 101], wd0 [94, 50], wd0 [111, 114], wd0 [94, 49]] [note0 1 [49], note0 2 [50]]
theorem samp_le : ILe (.agg [.int .i64 0, .int .i64 0, .int .i64 0, .int .i64 2, .str (bs [53]), .nil, .sl 4 [wdv (wd0 [102, 105, 110, 101]), wdv (wd0 [94, 50]), wdv (wd0 [111, 114]), wdv (wd0 [94, 49])], .sl 8 [.agg [.int .i64 0, .int .i64 0, .int .i64 1, .int .i64 7, .str (bs [49]), .nil, .nil, .nil], .agg [.int .i64 0, .int .i64 0, .int .i64 2, .int .i64 7, .str (bs [50]), .nil, .nil, .nil]]]) (uv sampU) := by
 unfold sampU
 rw [uv_mk]
 refine ILes.agg (.cons (.refl _) (.cons (.refl _) (.cons (.refl _) (.cons (.refl _) (.cons (.refl _) (.cons (.nil 4) (.cons (.refl _) (.cons ?_ (.refl [])))))))))
 refine ILes.sl (.cons ?_ (.cons ?_ (.refl [])))
 · unfold note0
   rw [uv_mk]
   exact ILes.agg (.cons (.refl _) (.cons (.refl _) (.cons (.refl _) (.cons (.refl _) (.cons (.refl _) (.cons (.nil 4) (.cons (.nil 4) (.cons (.nil 8) (.refl [])))))))))
 · unfold note0
   rw [uv_mk]
   exact ILes.agg (.cons (.refl _) (.cons (.refl _) (.cons (.refl _) (.cons (.refl _) (.cons (.refl _) (.cons (.nil 4) (.cons (.nil 4) (.cons (.nil 8) (.refl [])))))))))
theorem sample_pc : PC Tryd.prog env0 32 [] [uv sampU] := by
 refine PC.of_va (T := tbe) eqf_ok tbm_ok rfl mixed Tryd.func32 rfl rfl (Nat.le_of_ble_eq_true rfl) ?_; intro Γ C WK LP fin h0 hW hC hB hR hLP hfin
 (try (conv => whnf)); (repeat ((first | refine qT ?_ | refine qF ?_ | refine qO ?_ | (with_reducible intro z hz); (first | (replace hz := hz (by omega); subst hz) | subst hz)); (try (conv => whnf))))
 refine Imms.mk [wdv (wd0 [102, 105, 110, 101]), wdv (wd0 [94, 50]), wdv (wd0 [111, 114]), wdv (wd0 [94, 49])] rfl ?_
 (try (conv => whnf)); (repeat ((first | refine qT ?_ | refine qF ?_ | refine qO ?_ | (with_reducible intro z hz); (first | (replace hz := hz (by omega); subst hz) | subst hz)); (try (conv => whnf))))
 refine Imms.mk [.agg [.int .i64 0, .int .i64 0, .int .i64 1, .int .i64 7, .str (bs [49]), .nil, .nil, .nil], .agg [.int .i64 0, .int .i64 0, .int .i64 2, .int .i64 7, .str (bs [50]), .nil, .nil, .nil]] rfl ?_
 exact hfin _ (.cons samp_le (.refl []))
theorem samp_ok : OkT sampU := by
 have h : ∀ x ∈ sampU.all, x.words.length ≤ 100000 ∧ (∀ a ∈ x.words, a.text.size ≤ 100000) ∧ x.kids.length ≤ 100000 := by decide +kernel
 exact h
theorem samp_nil : fdsL sampU.all = [] := by decide +kernel
theorem samp_good : GoodR sampU := by
 have h : ∀ x ∈ sampU.all, (callN x).length = (ancL x.words).length ∧ (ancL x.words).length ≤ 90 ∧ x.head.length ≤ 100000 := by decide +kernel
 exact h
theorem samp_notes : notL sampU.all = [⟨0, 0, 2⟩, ⟨0, 0, 1⟩] := by decide +kernel
def sampR : Ut := .mk ⟨0, 0, 0⟩ 2 (bs [53]) [] [wd0 [102, 105, 110, 101], wd0 [94, 49], wd0 [111, 114], wd0 [94, 50]] [note0 1 [50], note0 2 [49]]
theorem samp_ren : renum sampU = sampR := by decide +kernel
theorem samp_anc : ancS (bs [94, 49, 50, 65]) = bs [49, 50, 65] ∧ ancB (bs [94, 49, 50, 65]) = true := by decide +kernel
theorem awake_pc : PC Tryd.prog env0 10 [] [.bool true] := by
 have h1 := sample_pc
 have h2 := renumber_pc sampU samp_ok (by decide +kernel) fun _ => samp_good
 have h3 := parse_pc (bs [94, 49, 50, 65]) (by decide +kernel)
 have h4 := fvalid_pc sampU samp_ok (by decide +kernel)
 have h5 := notes_pc sampU samp_ok (by decide +kernel)
 have h6 := alike_pc [⟨0, 0, 2⟩, ⟨0, 0, 1⟩] [⟨0, 0, 2⟩, ⟨0, 0, 1⟩] (by decide)
 unfold renV at h2
 rw [if_pos samp_nil, samp_ren] at h2
 rw [decide_eq_true samp_nil] at h2 h4
 rw [samp_anc.1, samp_anc.2] at h3
 rw [samp_notes] at h5
 rw [decide_eq_true rfl] at h6
 have hsr := uv_eq sampR
 rw [hsr] at h2
 refine PC.of_va (T := tbe) eqf_ok tbm_ok rfl mixed Tryd.func10 rfl rfl (Nat.le_of_ble_eq_true rfl) ?_; intro Γ C WK LP fin h0 hW hC hB hR hLP hfin
 (try (conv => whnf)); (repeat ((first | refine qT ?_ | refine qF ?_ | refine qO ?_ | (with_reducible intro z hz); (first | (replace hz := hz (by omega); subst hz) | subst hz) | (refine CallV.mk _ (hC _ _ _ (PCw.of h1)) (fun js hjs => ?_); subst hjs) | (refine CallV.mk _ (hC _ _ _ (PCw.of h2)) (fun js hjs => ?_); subst hjs) | (refine CallV.mk _ (hC _ _ _ (PCw.of h3)) (fun js hjs => ?_); subst hjs) | (refine CallV.mk _ (hC _ _ _ (PCw.of h1)) (fun js hjs => ?_); subst hjs) | (refine CallV.mk _ (hC _ _ _ (PCw.of h4)) (fun js hjs => ?_); subst hjs)); (try (conv => whnf))))
 refine Idx.mk 1 (wdv (wd0 [94, 49])) _ rfl rfl rfl ?_
 (try (conv => whnf)); (repeat ((first | refine qT ?_ | refine qF ?_ | refine qO ?_ | (with_reducible intro z hz); (first | (replace hz := hz (by omega); subst hz) | subst hz)); (try (conv => whnf))))
 refine Idx.mk 3 (wdv (wd0 [94, 50])) _ rfl rfl rfl ?_
 (try (conv => whnf)); (repeat ((first | refine qT ?_ | refine qF ?_ | refine qO ?_ | (with_reducible intro z hz); (first | (replace hz := hz (by omega); subst hz) | subst hz)); (try (conv => whnf))))
 refine Idx.mk 0 (uv (note0 1 [50])) _ rfl rfl (by rw [uv_eq]) ?_
 (try (conv => whnf)); (repeat ((first | refine qT ?_ | refine qF ?_ | refine qO ?_ | (with_reducible intro z hz); (first | (replace hz := hz (by omega); subst hz) | subst hz)); (try (conv => whnf))))
 refine Idx.mk 1 (uv (note0 2 [49])) _ rfl rfl (by rw [uv_eq]) ?_
 (try (conv => whnf)); (repeat ((first | refine qT ?_ | refine qF ?_ | refine qO ?_ | (with_reducible intro z hz); (first | (replace hz := hz (by omega); subst hz) | subst hz) | (refine CallV.mk _ (hC _ _ _ (PCw.of h1)) (fun js hjs => ?_); subst hjs) | (refine CallV.mk _ (hC _ _ _ (PCw.of h5)) (fun js hjs => ?_); subst hjs)); (try (conv => whnf))))
 refine Imms.mk [idv ⟨0, 0, 2⟩, idv ⟨0, 0, 1⟩] rfl ?_
 (try (conv => whnf)); (repeat ((first | refine qT ?_ | refine qF ?_ | refine qO ?_ | (with_reducible intro z hz); (first | (replace hz := hz (by omega); subst hz) | subst hz) | (refine CallV.mk _ (hC _ _ _ (PCw.of h6)) (fun js hjs => ?_); subst hjs)); (try (conv => whnf))))
 exact hfin _ (ILes.refl _)
theorem strs_pc (a b : List Str) (hb : b.length ≤ 500000000) : PC Tryd.prog env0 14 [.sl 1 (sv a), .sl 1 (sv b)] [.bool (decide (a = b))] := by
 have hal := sv_len a
 have hbl := sv_len b
 by_cases hlen : a.length = b.length
 rotate_left
 · have hne : a ≠ b := fun h => hlen (by rw [h])
   rw [decide_eq_false hne]
   refine PC.of_va (T := tbe) eqf_ok tbm_ok rfl mixed Tryd.func14 rfl rfl (Nat.le_of_ble_eq_true rfl) ?_; intro Γ C WK LP fin h0 hW hC hB hR hLP hfin
   (try (conv => whnf)); (repeat ((first | refine qT ?_ | refine qF ?_ | refine qO ?_ | (with_reducible intro z hz); (first | (replace hz := hz (by omega); subst hz) | subst hz)); (try (conv => whnf))))
   exact hfin _ (ILes.refl _)
 refine PC.of_va (T := tbe) eqf_ok tbm_ok rfl mixed Tryd.func14 rfl rfl (Nat.le_of_ble_eq_true rfl) ?_; intro Γ C WK LP fin h0 hW hC hB hR hLP hfin
 (try (conv => whnf)); (repeat ((first | refine qT ?_ | refine qF ?_ | refine qO ?_ | (with_reducible intro z hz); (first | (replace hz := hz (by omega); subst hz) | subst hz)); (try (conv => whnf))))
 refine hLP _ _ _ Nat (fun k => ⟨[(0, .imm (.sl 1 (sv a))), (1, .imm (.sl 1 (sv b))), (5, .imm (.int .i64 (k : Nat)))], []⟩) (fun k => k ≤ a.length ∧ a.take k = b.take k) (fun k => a.length - k) 0 ⟨Nat.zero_le _, by simp⟩ (qSL 0 rfl rfl) ?_
 rintro k ⟨hk, hp⟩
 have hho := Nat.lt_or_ge k a.length
 cases hho with
 | inr hge =>
   obtain rfl : k = a.length := by omega
   rw [List.take_length, hlen, List.take_length] at hp
   rw [decide_eq_true hp] at hfin
   (try (conv => whnf)); (repeat ((first | refine qT ?_ | refine qF ?_ | refine qO ?_ | (with_reducible intro z hz); (first | (replace hz := hz (by omega); subst hz) | subst hz)); (try (conv => whnf))))
   exact hfin _ (ILes.refl _)
 | inl hlt =>
   obtain ⟨x, hx⟩ : ∃ x, a[k]? = some x := ⟨a[k], List.getElem?_eq_getElem hlt⟩
   obtain ⟨y, hy⟩ : ∃ y, b[k]? = some y := ⟨b[k]'(by omega), List.getElem?_eq_getElem (by omega)⟩
   by_cases hxy : x = y
   · (try (conv => whnf)); (repeat ((first | refine qT ?_ | refine qF ?_ | refine qO ?_ | (with_reducible intro z hz); (first | (replace hz := hz (by omega); subst hz) | subst hz)); (try (conv => whnf))))
     refine Idx.mk k (.str x) _ rfl (by simp [sv, hx]) rfl ?_
     (try (conv => whnf)); (repeat ((first | refine qT ?_ | refine qF ?_ | refine qO ?_ | (with_reducible intro z hz); (first | (replace hz := hz (by omega); subst hz) | subst hz)); (try (conv => whnf))))
     refine Idx.mk k (.str y) _ rfl (by simp [sv, hy]) rfl ?_
     (try (conv => whnf)); (repeat ((first | refine qT ?_ | refine qF ?_ | refine qO ?_ | (with_reducible intro z hz); (first | (replace hz := hz (by omega); subst hz) | subst hz)); (try (conv => whnf))))
     exact ⟨k + 1, ⟨by omega, by rw [take_at hx, take_at hy, hp, hxy]⟩, by dsimp only; omega, (qSL 0 rfl rfl)⟩
   · have hne : a ≠ b := fun h => hxy (by rw [h, hy] at hx; exact (Option.some.inj hx).symm)
     rw [decide_eq_false hne] at hfin
     (try (conv => whnf)); (repeat ((first | refine qT ?_ | refine qF ?_ | refine qO ?_ | (with_reducible intro z hz); (first | (replace hz := hz (by omega); subst hz) | subst hz)); (try (conv => whnf))))
     refine Idx.mk k (.str x) _ rfl (by simp [sv, hx]) rfl ?_
     (try (conv => whnf)); (repeat ((first | refine qT ?_ | refine qF ?_ | refine qO ?_ | (with_reducible intro z hz); (first | (replace hz := hz (by omega); subst hz) | subst hz)); (try (conv => whnf))))
     refine Idx.mk k (.str y) _ rfl (by simp [sv, hy]) rfl ?_
     (try (conv => whnf)); (repeat ((first | refine qT ?_ | refine qF ?_ | refine qO ?_ | (with_reducible intro z hz); (first | (replace hz := hz (by omega); subst hz) | subst hz)); (try (conv => whnf))))
     exact hfin _ (ILes.refl _)
theorem few_count {u : Ut} (h : fewU u 60 = true) : Small 60 u ∧ OkT u ∧ u.count ≤ 60 := by
 have hs := few_small (m := 60) h
 exact ⟨hs, small_ok hs (by omega), hs.1⟩
theorem lawFindings (u : Ut) (hu : okU u) : PC Tryd.prog env0 4 [uv u] [.bool true] := by
 have hA := awake_pc
 have hF := few_pc u 60 hu (by omega) (by omega)
 have hue := uv_eq u
 cases hb : fewU u 60
 · rw [hb] at hF
   rw [hue] at hF ⊢
   refine PC.of_va (T := tbe) eqf_ok tbm_ok rfl mixed Tryd.func4 rfl rfl (Nat.le_of_ble_eq_true rfl) ?_; intro Γ C WK LP fin h0 hW hC hB hR hLP hfin
   (try (conv => whnf)); (repeat ((first | refine qT ?_ | refine qF ?_ | refine qO ?_ | (with_reducible intro z hz); (first | (replace hz := hz (by omega); subst hz) | subst hz) | (refine CallV.mk _ (hC _ _ _ (PCw.of hA)) (fun js hjs => ?_); subst hjs) | (refine CallV.mk _ (hC _ _ _ (PCw.of hF)) (fun js hjs => ?_); subst hjs)); (try (conv => whnf))))
   exact hfin _ (ILes.refl _)
 rw [hb] at hF
 obtain ⟨hs, hok, hc⟩ := few_count hb
 have h1 := (rcheck_pcr 60 u hc (by omega) hok).pc
 have h2 := (check_pcr u hok (by omega)).pc
 have hfl : (fdsL u.all).length ≤ 500000000 := by
   have h := fdsL_len u.all hok
   rw [all_len] at h
   omega
 have h3 := flaws_pc (fdsL u.all) (fdsL u.all) hfl
 have h4 := fvalid_pc u hok (by omega)
 have h5 := notes_pc u hok (by omega)
 have h6 := rnotes_pc 60 u hc (by omega) hok
 have hnl : (notL u.all).length ≤ 100000000 := by
   have h := notL_len u.all hok
   rw [all_len] at h
   omega
 have h7 := alike_pc (notL u.all) (notL u.all) hnl
 rw [decide_eq_true rfl] at h3 h7
 have hml : ((fdsL u.all).map fdv).length = (fdsL u.all).length := List.length_map _
 generalize fdsL u.all = L at h1 h2 h3 h4 hml
 generalize notL u.all = M at h5 h6 h7
 have he : L = [] ↔ L.length = 0 := List.length_eq_zero_iff.symm
 rw [hue] at hF h1 h2 h4 h5 h6 ⊢
 by_cases hL : L = []
 · have hl0 := he.1 hL
   rw [decide_eq_true hL] at h4
   refine PC.of_va (T := tbe) eqf_ok tbm_ok rfl mixed Tryd.func4 rfl rfl (Nat.le_of_ble_eq_true rfl) ?_; intro Γ C WK LP fin h0 hW hC hB hR hLP hfin
   (try (conv => whnf)); (repeat ((first | refine qT ?_ | refine qF ?_ | refine qO ?_ | (with_reducible intro z hz); (first | (replace hz := hz (by omega); subst hz) | subst hz) | (refine CallV.mk _ (hC _ _ _ (PCw.of hA)) (fun js hjs => ?_); subst hjs) | (refine CallV.mk _ (hC _ _ _ (PCw.of hF)) (fun js hjs => ?_); subst hjs) | (refine CallV.mk _ (hC _ _ _ (PCw.of h1)) (fun js hjs => ?_); subst hjs) | (refine CallV.mk _ (hC _ _ _ (PCw.of h2)) (fun js hjs => ?_); subst hjs) | (refine CallV.mk _ (hC _ _ _ (PCw.of h3)) (fun js hjs => ?_); subst hjs) | (refine CallV.mk _ (hC _ _ _ (PCw.of h4)) (fun js hjs => ?_); subst hjs) | (refine CallV.mk _ (hC _ _ _ (PCw.of h5)) (fun js hjs => ?_); subst hjs) | (refine CallV.mk _ (hC _ _ _ (PCw.of h6)) (fun js hjs => ?_); subst hjs) | (refine CallV.mk _ (hC _ _ _ (PCw.of h7)) (fun js hjs => ?_); subst hjs)); (try (conv => whnf))))
   exact hfin _ (ILes.refl _)
 · have hl0 : L.length ≠ 0 := fun h => hL (he.2 h)
   rw [decide_eq_false hL] at h4
   refine PC.of_va (T := tbe) eqf_ok tbm_ok rfl mixed Tryd.func4 rfl rfl (Nat.le_of_ble_eq_true rfl) ?_; intro Γ C WK LP fin h0 hW hC hB hR hLP hfin
   (try (conv => whnf)); (repeat ((first | refine qT ?_ | refine qF ?_ | refine qO ?_ | (with_reducible intro z hz); (first | (replace hz := hz (by omega); subst hz) | subst hz) | (refine CallV.mk _ (hC _ _ _ (PCw.of hA)) (fun js hjs => ?_); subst hjs) | (refine CallV.mk _ (hC _ _ _ (PCw.of hF)) (fun js hjs => ?_); subst hjs) | (refine CallV.mk _ (hC _ _ _ (PCw.of h1)) (fun js hjs => ?_); subst hjs) | (refine CallV.mk _ (hC _ _ _ (PCw.of h2)) (fun js hjs => ?_); subst hjs) | (refine CallV.mk _ (hC _ _ _ (PCw.of h3)) (fun js hjs => ?_); subst hjs) | (refine CallV.mk _ (hC _ _ _ (PCw.of h4)) (fun js hjs => ?_); subst hjs) | (refine CallV.mk _ (hC _ _ _ (PCw.of h5)) (fun js hjs => ?_); subst hjs) | (refine CallV.mk _ (hC _ _ _ (PCw.of h6)) (fun js hjs => ?_); subst hjs) | (refine CallV.mk _ (hC _ _ _ (PCw.of h7)) (fun js hjs => ?_); subst hjs)); (try (conv => whnf))))
   exact hfin _ (ILes.refl _)
theorem lawAnchors (s : Str) (u : Ut) (hu : okU u) : PC Tryd.prog env0 3 [.str s, uv u] [.bool true] := by
 have hA := awake_pc
 have hF := few_pc u 60 hu (by omega) (by omega)
 have hue := uv_eq u
 cases hb : fewU u 60
 · rw [hb] at hF
   rw [hue] at hF ⊢
   refine PC.of_va (T := tbe) eqf_ok tbm_ok rfl mixed Tryd.func3 rfl rfl (Nat.le_of_ble_eq_true rfl) ?_; intro Γ C WK LP fin h0 hW hC hB hR hLP hfin
   (try (conv => whnf)); (repeat ((first | refine qT ?_ | refine qF ?_ | refine qO ?_ | (with_reducible intro z hz); (first | (replace hz := hz (by omega); subst hz) | subst hz) | (refine CallV.mk _ (hC _ _ _ (PCw.of hA)) (fun js hjs => ?_); subst hjs) | (refine CallV.mk _ (hC _ _ _ (PCw.of hF)) (fun js hjs => ?_); subst hjs)); (try (conv => whnf))))
   exact hfin _ (ILes.refl _)
 rw [hb] at hF
 obtain ⟨hs, hok, hc⟩ := few_count hb
 by_cases h100 : 100 < s.size
 · rw [hue] at hF ⊢
   refine PC.of_va (T := tbe) eqf_ok tbm_ok rfl mixed Tryd.func3 rfl rfl (Nat.le_of_ble_eq_true rfl) ?_; intro Γ C WK LP fin h0 hW hC hB hR hLP hfin
   (try (conv => whnf)); (repeat ((first | refine qT ?_ | refine qF ?_ | refine qO ?_ | (with_reducible intro z hz); (first | (replace hz := hz (by omega); subst hz) | subst hz) | (refine CallV.mk _ (hC _ _ _ (PCw.of hA)) (fun js hjs => ?_); subst hjs) | (refine CallV.mk _ (hC _ _ _ (PCw.of hF)) (fun js hjs => ?_); subst hjs)); (try (conv => whnf))))
   exact hfin _ (ILes.refl _)
 have hou := hok u (by rw [Ut.all_eq]; exact List.mem_cons_self)
 have h1 := parse_pc s (by omega)
 have h2 := ranchor_pc s (by omega)
 have h3 := (labels_pcr u hou).pc
 have h4 := (rlabels_pcr u hou).pc
 have h5 := strs_pc (labL u.words) (labL u.words) (by have := labL_len u.words; have := hou.1; omega)
 rw [decide_eq_true rfl] at h5
 generalize labL u.words = L at h3 h4 h5
 generalize ancS s = a at h1 h2
 generalize ancB s = b at h1 h2
 rw [hue] at hF h3 h4 ⊢
 cases b
 · refine PC.of_va (T := tbe) eqf_ok tbm_ok rfl mixed Tryd.func3 rfl rfl (Nat.le_of_ble_eq_true rfl) ?_; intro Γ C WK LP fin h0 hW hC hB hR hLP hfin
   (try (conv => whnf)); (repeat ((first | refine qT ?_ | refine qF ?_ | refine qO ?_ | (with_reducible intro z hz); (first | (replace hz := hz (by omega); subst hz) | subst hz) | (refine CallV.mk _ (hC _ _ _ (PCw.of hA)) (fun js hjs => ?_); subst hjs) | (refine CallV.mk _ (hC _ _ _ (PCw.of hF)) (fun js hjs => ?_); subst hjs) | (refine CallV.mk _ (hC _ _ _ (PCw.of h1)) (fun js hjs => ?_); subst hjs) | (refine CallV.mk _ (hC _ _ _ (PCw.of h2)) (fun js hjs => ?_); subst hjs) | (refine CallV.mk _ (hC _ _ _ (PCw.of h3)) (fun js hjs => ?_); subst hjs) | (refine CallV.mk _ (hC _ _ _ (PCw.of h4)) (fun js hjs => ?_); subst hjs) | (refine CallV.mk _ (hC _ _ _ (PCw.of h5)) (fun js hjs => ?_); subst hjs)); (try (conv => whnf))))
   exact hfin _ (ILes.refl _)
 · refine PC.of_va (T := tbe) eqf_ok tbm_ok rfl mixed Tryd.func3 rfl rfl (Nat.le_of_ble_eq_true rfl) ?_; intro Γ C WK LP fin h0 hW hC hB hR hLP hfin
   (try (conv => whnf)); (repeat ((first | refine qT ?_ | refine qF ?_ | refine qO ?_ | (with_reducible intro z hz); (first | (replace hz := hz (by omega); subst hz) | subst hz) | (refine CallV.mk _ (hC _ _ _ (PCw.of hA)) (fun js hjs => ?_); subst hjs) | (refine CallV.mk _ (hC _ _ _ (PCw.of hF)) (fun js hjs => ?_); subst hjs) | (refine CallV.mk _ (hC _ _ _ (PCw.of h1)) (fun js hjs => ?_); subst hjs) | (refine CallV.mk _ (hC _ _ _ (PCw.of h2)) (fun js hjs => ?_); subst hjs) | (refine CallV.mk _ (hC _ _ _ (PCw.of h3)) (fun js hjs => ?_); subst hjs) | (refine CallV.mk _ (hC _ _ _ (PCw.of h4)) (fun js hjs => ?_); subst hjs) | (refine CallV.mk _ (hC _ _ _ (PCw.of h5)) (fun js hjs => ?_); subst hjs)); (try (conv => whnf))))
   exact hfin _ (ILes.refl _)
end Go.Proofs.YtkjgmnmngbfhhaaDoor.Pn
namespace Go.Proofs.YtkjgmnmngbfhhaaDoor.Pn
open Go Go.Pv Go.RowKit Go.Proofs.YtkjgmnmngbfhhaaDoor.Pb
set_option linter.unusedSimpArgs false
open Lab Lcs Go.Proofs.YtkjgmnmngbfhhaaDoor Go.Proofs.YtkjgmnmngbfhhaaDoor.Pu
set_option maxRecDepth 10000
set_option maxHeartbeats 16000000
mutual
def cntU : Ut → Nat
 | .mk _ _ _ _ _ kids => cntL kids
def cntL : List Ut → Nat
 | [] => 0
 | x :: r => (if x.kind = 7 then 1 else 0) + cntU x + cntL r
end
theorem cntU_eq (u : Ut) : cntU u = cntL u.kids := by cases u; rw [cntU]; rfl
theorem cntL_app : ∀ a b : List Ut, cntL (a ++ b) = cntL a + cntL b
 | [], b => by simp [cntL]
 | x :: a, b => by simp only [List.cons_append, cntL]; rw [cntL_app a b]; omega
theorem cntL_take {l : List Ut} {k : Nat} {x : Ut} (hx : l[k]? = some x) : cntL (l.take (k + 1)) = cntL (l.take k) + (if x.kind = 7 then 1 else 0) + cntU x := by
 rw [take_at hx, cntL_app]
 simp only [cntL]
 omega
mutual
theorem cntU_le : ∀ u : Ut, cntU u + 1 ≤ u.count
 | .mk id kind label head words kids => by
   rw [cntU, count_mk]
   have := cntL_le kids
   omega
theorem cntL_le : ∀ l : List Ut, cntL l ≤ Ut.counts l
 | [] => by simp [cntL, Ut.counts]
 | u :: r => by
   have h1 := cntU_le u
   have h2 := cntL_le r
   simp only [cntL, Ut.counts]
   split <;> omega
end
theorem count_pc (N : Nat) : ∀ u : Ut, u.count ≤ N → N ≤ 1000 → PC Tryd.prog env0 31 [uv u] [.int .i64 (cntU u : Nat)] := by
 induction N with
 | zero => intro u h; have := count_pos u; omega
 | succ N ih =>
 intro u hN hM
 have hue := uv_eq u
 have hkl : (u.kids.map uv).length = u.kids.length := List.length_map _
 have hcu := Ut.count_eq u
 have hks := kids_counts u.kids
 rw [hue, cntU_eq]
 refine PC.of_va (T := tbe) eqf_ok tbm_ok rfl mixed Tryd.func31 rfl rfl (Nat.le_of_ble_eq_true rfl) ?_; intro Γ C WK LP fin h0 hW hC hB hR hLP hfin
 (try (conv => whnf)); (repeat ((first | refine qT ?_ | refine qF ?_ | refine qO ?_ | (with_reducible intro z hz); (first | (replace hz := hz (by omega); subst hz) | subst hz)); (try (conv => whnf))))
 refine hLP _ _ _ Nat (fun k => ⟨[(1, .ptr 0 1 0), (3, .imm (.int .i64 (cntL (u.kids.take k) : Nat))), (4, .imm (.int .i64 (k : Nat)))], [.box 1 [.imm (.int .i64 u.id.x), .imm (.int .i64 u.id.y), .imm (.int .i64 u.id.z), .imm (.int .i64 u.kind), .imm (.str u.label), .imm (.sl 4 (u.head.map wdv)), .imm (.sl 4 (u.words.map wdv)), .imm (.sl 8 (u.kids.map uv))]]⟩) (fun k => k ≤ u.kids.length) (fun k => u.kids.length - k) 0 (Nat.zero_le _) (qSL 1 rfl rfl) ?_
 intro k hk
 have hho := Nat.lt_or_ge k u.kids.length
 cases hho with
 | inl hlt =>
   obtain ⟨x, hx⟩ : ∃ x, u.kids[k]? = some x := ⟨u.kids[k], List.getElem?_eq_getElem hlt⟩
   have hux := uv_eq x
   have h1 := kid_lt' hx
   have hI := ih x (by omega) (by omega)
   have htk := cntL_take hx
   have hl1 := cntU_le x
   have hl2 := cntL_le (u.kids.take k)
   rw [hux] at hI
   generalize cntU x = c at hI htk hl1
   generalize hd : cntL (u.kids.take (k + 1)) = d at htk
   generalize cntL (u.kids.take k) = b at htk hl2
   by_cases h7 : x.kind = 7
   · rw [if_pos h7] at htk
     (try (conv => whnf)); (repeat ((first | refine qT ?_ | refine qF ?_ | refine qO ?_ | (with_reducible intro z hz); (first | (replace hz := hz (by omega); subst hz) | subst hz)); (try (conv => whnf))))
     refine Idx.mk k (uv x) _ rfl (by simp [hx]) (by rw [hux]; try rfl) ?_
     (try (conv => whnf)); (repeat ((first | refine qT ?_ | refine qF ?_ | refine qO ?_ | (with_reducible intro z hz); (first | (replace hz := hz (by omega); subst hz) | subst hz)); (try (conv => whnf))))
     refine Idx.mk k (uv x) _ rfl (by simp [hx]) (by rw [hux]; try rfl) ?_
     (try (conv => whnf)); (repeat ((first | refine qT ?_ | refine qF ?_ | refine qO ?_ | (with_reducible intro z hz); (first | (replace hz := hz (by omega); subst hz) | subst hz) | (refine CallV.mk _ (hC _ _ _ (PCw.of hI)) (fun js hjs => ?_); subst hjs)); (try (conv => whnf))))
     refine ⟨k + 1, by omega, by dsimp only; omega, ?_⟩
     dsimp only
     rw [hd]
     exact (qSL 1 rfl rfl)
   · rw [if_neg h7] at htk
     (try (conv => whnf)); (repeat ((first | refine qT ?_ | refine qF ?_ | refine qO ?_ | (with_reducible intro z hz); (first | (replace hz := hz (by omega); subst hz) | subst hz)); (try (conv => whnf))))
     refine Idx.mk k (uv x) _ rfl (by simp [hx]) (by rw [hux]; try rfl) ?_
     (try (conv => whnf)); (repeat ((first | refine qT ?_ | refine qF ?_ | refine qO ?_ | (with_reducible intro z hz); (first | (replace hz := hz (by omega); subst hz) | subst hz)); (try (conv => whnf))))
     refine Idx.mk k (uv x) _ rfl (by simp [hx]) (by rw [hux]; try rfl) ?_
     (try (conv => whnf)); (repeat ((first | refine qT ?_ | refine qF ?_ | refine qO ?_ | (with_reducible intro z hz); (first | (replace hz := hz (by omega); subst hz) | subst hz) | (refine CallV.mk _ (hC _ _ _ (PCw.of hI)) (fun js hjs => ?_); subst hjs)); (try (conv => whnf))))
     refine ⟨k + 1, by omega, by dsimp only; omega, ?_⟩
     dsimp only
     rw [hd]
     exact (qSL 1 rfl rfl)
 | inr hge =>
   obtain rfl : k = u.kids.length := by omega
   rw [List.take_length]
   (try (conv => whnf)); (repeat ((first | refine qT ?_ | refine qF ?_ | refine qO ?_ | (with_reducible intro z hz); (first | (replace hz := hz (by omega); subst hz) | subst hz)); (try (conv => whnf))))
   exact hfin _ (ILes.refl _)
def notesAt (l : List Ut) : List Nat := (List.range l.length).filter fun i => match l[i]? with
 | some x => decide (x.kind = 7)
 | none => false
def noteN (l : List Ut) : Nat := (l.filter fun x => decide (x.kind = 7)).length
theorem notesAt_len : ∀ (n : Nat) (l : List Ut), l.length = n → (notesAt l).length = noteN l := by
 intro n
 induction n with
 | zero => intro l hl; obtain rfl := List.eq_nil_of_length_eq_zero hl; rfl
 | succ n ih =>
   intro L hL
   obtain ⟨r, x, rfl⟩ : ∃ r x, L = r ++ [x] := ⟨L.dropLast, L.getLast (by intro h; subst h; simp at hL), (List.dropLast_concat_getLast _).symm⟩
   have h1 := ih r (by simpa using hL)
   unfold notesAt noteN at h1 ⊢
   rw [List.length_append, List.length_singleton, List.range_succ, List.filter_append, List.filter_append, List.length_append, List.length_append, ← h1]
   congr 1
   · congr 1
     apply List.filter_congr
     intro i hi
     rw [List.getElem?_append_left (List.mem_range.1 hi)]
   · simp only [List.filter_cons, List.filter_nil, List.getElem?_concat_length]
     cases decide (x.kind = 7) <;> rfl
theorem call_notes {u : Ut} (h1 : faultN u = []) (h2 : lostN u = []) : (callN u).length = noteN u.kids := by
 obtain ⟨_, h3, _⟩ := calls_all _ (ancL u.words) rfl h1
 rw [← notesAt_len _ u.kids rfl]
 apply Nat.le_antisymm
 · refine List.Nodup.length_le_of_subset h3 fun n hn => ?_
   obtain ⟨x, hx, h7⟩ := callN_at hn
   unfold notesAt
   rw [List.mem_filter, List.mem_range, hx]
   exact ⟨(List.getElem?_eq_some_iff.1 hx).1, decide_eq_true h7⟩
 · have hnd : (notesAt u.kids).Nodup := List.Nodup.sublist List.filter_sublist List.nodup_range
   refine List.Nodup.length_le_of_subset hnd fun n hn => ?_
   unfold notesAt at hn
   rw [List.mem_filter] at hn
   have hn2 := hn.2
   cases hx : u.kids[n]? with
   | none => rw [hx] at hn2; cases hn2
   | some x =>
     rw [hx] at hn2
     have h7 := of_decide_eq_true hn2
     have hat : ∀ (l : List Ut) (k i : Nat) (c : List Nat), lostL c k l = [] → l[i]? = some x → k + i ∈ c := by
       intro l
       induction l with
       | nil => intro k i c _ h; simp at h
       | cons y l ih =>
         intro k i c hl h
         simp only [lostL, List.append_eq_nil_iff] at hl
         cases i with
         | zero =>
           simp only [List.getElem?_cons_zero, Option.some.injEq] at h
           subst h
           have := hl.1
           unfold lostA at this
           split at this
           · cases this
           · rename_i hc
             by_cases hk : k ∈ c
             · exact hk
             · exact absurd ⟨h7, hk⟩ hc
         | succ i =>
           have := ih (k + 1) i c hl.2 (by simpa using h)
           rwa [show k + 1 + i = k + (i + 1) by omega] at this
     have := hat u.kids 0 n (callN u) h2 hx
     rwa [Nat.zero_add] at this
theorem cntL_notes : ∀ l : List Ut, cntL l = noteN l + (l.map cntU).sum
 | [] => rfl
 | x :: r => by
   simp only [cntL]
   rw [cntL_notes r]
   unfold noteN
   rw [List.filter_cons, List.map_cons, List.sum_cons]
   by_cases h : x.kind = 7
   · simp [h]; omega
   · simp [h]; omega
theorem not_count (N : Nat) : ∀ u : Ut, u.count ≤ N → (∀ x ∈ u.all, faultN x = [] ∧ lostN x = []) → (notL u.all).length = cntU u := by
 induction N with
 | zero => intro u h; have := count_pos u; omega
 | succ N ih =>
   intro u hN h
   rw [notL_all, List.length_append, cntU_eq, cntL_notes]
   obtain ⟨h1, h2⟩ := h u (by rw [Ut.all_eq]; exact List.mem_cons_self)
   congr 1
   · unfold perN
     rw [List.length_map]
     exact call_notes h1 h2
   · have : ∀ l : List Ut, (∀ x ∈ l, (notL x.all).length = cntU x) → (notL (Ut.alls l)).length = (l.map cntU).sum := by
       intro l
       induction l with
       | nil => intro _; rfl
       | cons x l ih2 =>
         intro hx
         simp only [Ut.alls]
         rw [notL_app, List.length_append, List.map_cons, List.sum_cons, hx x List.mem_cons_self, ih2 fun y hy => hx y (List.mem_cons_of_mem _ hy)]
     refine this u.kids fun x hx => ih x ?_ fun y hy => h y (kid_all hx hy)
     obtain ⟨k, hk, rfl⟩ := List.getElem_of_mem hx
     have := kid_lt' (List.getElem?_eq_getElem hk)
     omega
theorem lawCoverage (u : Ut) (hu : okU u) : PC Tryd.prog env0 9 [uv u] [.bool true] := by
 have hA := awake_pc
 have hF := few_pc u 60 hu (by omega) (by omega)
 have hue := uv_eq u
 cases hb : fewU u 60
 · rw [hb] at hF
   rw [hue] at hF ⊢
   refine PC.of_va (T := tbe) eqf_ok tbm_ok rfl mixed Tryd.func9 rfl rfl (Nat.le_of_ble_eq_true rfl) ?_; intro Γ C WK LP fin h0 hW hC hB hR hLP hfin
   (try (conv => whnf)); (repeat ((first | refine qT ?_ | refine qF ?_ | refine qO ?_ | (with_reducible intro z hz); (first | (replace hz := hz (by omega); subst hz) | subst hz) | (refine CallV.mk _ (hC _ _ _ (PCw.of hA)) (fun js hjs => ?_); subst hjs) | (refine CallV.mk _ (hC _ _ _ (PCw.of hF)) (fun js hjs => ?_); subst hjs)); (try (conv => whnf))))
   exact hfin _ (ILes.refl _)
 rw [hb] at hF
 obtain ⟨hs, hok, hc⟩ := few_count hb
 have h4 := fvalid_pc u hok (by omega)
 by_cases hL : fdsL u.all = []
 · rw [decide_eq_true hL] at h4
   have h5 := notes_pc u hok (by omega)
   have h6 := count_pc 60 u hc (by omega)
   have hn := not_count _ u (Nat.le_refl _) (per_nil hL)
   have hml : ((notL u.all).map idv).length = (notL u.all).length := List.length_map _
   generalize notL u.all = M at h5 hn hml
   generalize cntU u = c at h6 hn
   rw [hue] at hF h4 h5 h6 ⊢
   refine PC.of_va (T := tbe) eqf_ok tbm_ok rfl mixed Tryd.func9 rfl rfl (Nat.le_of_ble_eq_true rfl) ?_; intro Γ C WK LP fin h0 hW hC hB hR hLP hfin
   (try (conv => whnf)); (repeat ((first | refine qT ?_ | refine qF ?_ | refine qO ?_ | (with_reducible intro z hz); (first | (replace hz := hz (by omega); subst hz) | subst hz) | (refine CallV.mk _ (hC _ _ _ (PCw.of hA)) (fun js hjs => ?_); subst hjs) | (refine CallV.mk _ (hC _ _ _ (PCw.of hF)) (fun js hjs => ?_); subst hjs) | (refine CallV.mk _ (hC _ _ _ (PCw.of h4)) (fun js hjs => ?_); subst hjs) | (refine CallV.mk _ (hC _ _ _ (PCw.of h5)) (fun js hjs => ?_); subst hjs) | (refine CallV.mk _ (hC _ _ _ (PCw.of h6)) (fun js hjs => ?_); subst hjs)); (try (conv => whnf))))
   exact hfin _ (ILes.refl _)
 · rw [decide_eq_false hL] at h4
   rw [hue] at hF h4 ⊢
   refine PC.of_va (T := tbe) eqf_ok tbm_ok rfl mixed Tryd.func9 rfl rfl (Nat.le_of_ble_eq_true rfl) ?_; intro Γ C WK LP fin h0 hW hC hB hR hLP hfin
   (try (conv => whnf)); (repeat ((first | refine qT ?_ | refine qF ?_ | refine qO ?_ | (with_reducible intro z hz); (first | (replace hz := hz (by omega); subst hz) | subst hz) | (refine CallV.mk _ (hC _ _ _ (PCw.of hA)) (fun js hjs => ?_); subst hjs) | (refine CallV.mk _ (hC _ _ _ (PCw.of hF)) (fun js hjs => ?_); subst hjs) | (refine CallV.mk _ (hC _ _ _ (PCw.of h4)) (fun js hjs => ?_); subst hjs)); (try (conv => whnf))))
   exact hfin _ (ILes.refl _)
end Go.Proofs.YtkjgmnmngbfhhaaDoor.Pn
