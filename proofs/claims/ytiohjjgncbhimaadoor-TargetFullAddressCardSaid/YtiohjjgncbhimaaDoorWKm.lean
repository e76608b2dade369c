/-
  The law of TargetDestination. The law of TargetDestination, of arguments that came in. The reference's Whole.
-/
import Derived.Test.YtiohjjgncbhimaaDoorWKj
import Derived.Test.YtiohjjgncbhimaaDoorWKk
import Derived.Test.YtiohjjgncbhimaaDoorWKp
import Derived.Test.YtiohjjgncbhimaaDoorWKd
namespace Go.Proofs.YtiohjjgncbhimaaDoor.Pk
open Go Go.Pv Go.RowKit Go.Proofs.YtiohjjgncbhimaaDoor.Pu Go.Proofs.YtiohjjgncbhimaaDoor.Pa Go.Proofs.YtiohjjgncbhimaaDoor.Pb
set_option linter.unusedSimpArgs false
open Lab Lcs Go.Proofs.YtiohjjgncbhimaaDoor
set_option maxRecDepth 10000
set_option maxHeartbeats 32000000
theorem dest_goes {u : Ut} {x : It} (hd : u.ids.Nodup) : destA u x = goesA u x := by
 unfold destA goesA
 rw [ins_where, move_goes hd]
theorem lawDest (u : Ut) (x : It) (hok : okU u) (hx : FitI x) : PC Tryd.prog envU 5 [uv u, itv x] [.bool true] := by
 have hA := awake_pc
 have hK := book_pc u hok
 have hF := few17_pc x hx
 have hue := uv_eq u
 have hxe := itv_eq x
 cases hb : bookL u
 · rw [hb] at hK
   rw [hue] at hK ⊢
   rw [hxe]
   refine PC.of_va (T := tb0) eqs2_ok tb_ok rfl mixed Tryd.func5 rfl rfl (Nat.le_of_ble_eq_true rfl) ?_; intro Γ C WK LP fin h0 hW hC hB hR hLP hfin
   (try (conv => whnf)); (repeat ((first | refine qT ?_ | refine qF ?_ | refine qO ?_ | (with_reducible intro z hz); (first | (replace hz := hz (by omega); subst hz) | subst hz) | (refine CallV.mk _ (hC _ _ _ (PCw.of hA)) (fun js hjs => ?_); subst hjs) | (refine CallV.mk _ (hC _ _ _ (PCw.of hK)) (fun js hjs => ?_); subst hjs)); (try (conv => whnf))))
   exact hfin _ (ILes.refl _)
 rw [hb] at hK
 cases hf : fewI x
 · rw [hf] at hF
   rw [hue] at hK ⊢
   rw [hxe] at hF ⊢
   refine PC.of_va (T := tb0) eqs2_ok tb_ok rfl mixed Tryd.func5 rfl rfl (Nat.le_of_ble_eq_true rfl) ?_; intro Γ C WK LP fin h0 hW hC hB hR hLP hfin
   (try (conv => whnf)); (repeat ((first | refine qT ?_ | refine qF ?_ | refine qO ?_ | (with_reducible intro z hz); (first | (replace hz := hz (by omega); subst hz) | subst hz) | (refine CallV.mk _ (hC _ _ _ (PCw.of hA)) (fun js hjs => ?_); subst hjs) | (refine CallV.mk _ (hC _ _ _ (PCw.of hK)) (fun js hjs => ?_); subst hjs) | (refine CallV.mk _ (hC _ _ _ (PCw.of hF)) (fun js hjs => ?_); subst hjs)); (try (conv => whnf))))
   exact hfin _ (ILes.refl _)
 rw [hf] at hF
 obtain ⟨hc, _, hs, hst⟩ := bookL_facts hb
 rw [standsR_eq] at hst
 have h1 := dest_pc u x (by omega) hs (few_at hf).1 (few_at hf).2
 have h2 := goes_pc u x (by omega) (few_at hf).1 (few_at hf).2
 rw [dest_goes (stands_nodup hst)] at h1
 generalize goesA u x = q at h1 h2
 have hi := id_eq (rfl : q.1 = q.1)
 unfold out3 idv idl at h1 h2
 rw [hue] at hK h1 h2 ⊢
 rw [hxe] at hF h1 h2 ⊢
 refine PC.of_va (T := tb0) eqs2_ok tb_ok rfl mixed Tryd.func5 rfl rfl (Nat.le_of_ble_eq_true rfl) ?_; intro Γ C WK LP fin h0 hW hC hB hR hLP hfin
 (try (conv => whnf)); (repeat ((first | refine qT ?_ | refine qF ?_ | refine qO ?_ | (with_reducible intro z hz); (first | (replace hz := hz (by omega); subst hz) | subst hz) | (refine CallV.mk _ (hC _ _ _ (PCw.of hA)) (fun js hjs => ?_); subst hjs) | (refine CallV.mk _ (hC _ _ _ (PCw.of hK)) (fun js hjs => ?_); subst hjs) | (refine CallV.mk _ (hC _ _ _ (PCw.of hF)) (fun js hjs => ?_); subst hjs) | (refine CallV.mk _ (hC _ _ _ (PCw.of h1)) (fun js hjs => ?_); subst hjs) | (refine CallV.mk _ (hC _ _ _ (PCw.of h2)) (fun js hjs => ?_); subst hjs)); (try (conv => whnf))))
 exact hfin _ (ILes.refl _)
end Go.Proofs.YtiohjjgncbhimaaDoor.Pk
namespace Go.Proofs.YtiohjjgncbhimaaDoor.Pk
open Go Go.Pv Go.Proofs.YtiohjjgncbhimaaDoor.Pu Go.Proofs.YtiohjjgncbhimaaDoor.Pa
open Lab Lcs Go.Proofs.YtiohjjgncbhimaaDoor Go.RowKit
theorem dstL (u : Ut) (h : Fit u) (x : It) (hx : FitI x) : PC Tryd.prog Pu.envU 5 [uv u, itv x] [.bool true] := lawDest u x h.ok hx
end Go.Proofs.YtiohjjgncbhimaaDoor.Pk
namespace Go.Proofs.YtiohjjgncbhimaaDoor.Pk
open Go Go.Pv Go.RowKit Go.Proofs.YtiohjjgncbhimaaDoor.Pu Go.Proofs.YtiohjjgncbhimaaDoor.Pa Go.Proofs.YtiohjjgncbhimaaDoor.Pb
set_option linter.unusedSimpArgs false
open Lab Lcs Go.Proofs.YtiohjjgncbhimaaDoor
set_option maxRecDepth 10000
set_option maxHeartbeats 16000000
def belA (id : Trip) (u : Ut) : List Stp := ((linL id u).reverse.map ustep).drop 1
theorem way_bel {id : Trip} {u : Ut} (h : linL id u ≠ []) : wayA id u = bookS :: belA id u := by
 unfold wayA belA
 cases hq : linL id u with
 | nil => exact absurd hq h
 | cons a b => rfl
theorem bel_len (id : Trip) (u : Ut) : (belA id u).length ≤ u.count := by
 unfold belA
 have := Pu.lin_len id u
 simp only [List.length_drop, List.length_map, List.length_reverse]
 omega
theorem bel_kid {id : Trip} {u x : Ut} {k : Nat} (hid : u.id ≠ id) (hx : u.kids[k]? = some x) (hno : linK id (u.kids.take k) = []) (hf : linL id x ≠ []) : belA id u = ustep x :: belA id x ∧ inU id u = true := by
 have hh := linK_hit hx hno hf
 have h1 : linL id u = linL id x ++ [u] := by rw [lin_some hid (by rw [hh]; exact hf), hh]
 obtain ⟨r, hr, _, _⟩ := lin_chain id x hf
 constructor
 · unfold belA
   rw [h1, List.reverse_append, hr]
   rfl
 · unfold inU
   rw [h1]
   simp
theorem below_pc (id : Trip) (n : Nat) : ∀ u : Ut, u.count ≤ n → n ≤ 100000000 → PC Tryd.prog envU 30 [uv u, idv id] [.sl 2 ((belA id u).map spv), .bool (inU id u)] := by
 induction n with
 | zero => intro u h; have := count_pos u; omega
 | succ n ih =>
 intro u hn hM
 have hue := uv_eq u
 have hml : (u.kids.map uv).length = u.kids.length := List.length_map _
 have hkl := kids_counts u.kids
 have hcu := Ut.count_eq u
 by_cases hid : u.id = id
 · have hi := id_eq hid
   rw [show belA id u = [] by unfold belA; rw [lin_self hid]; rfl, show inU id u = true by unfold inU; rw [lin_self hid]; rfl]
   rw [hue]
   unfold idv idl
   refine PC.of_va (T := tb0) eqs2_ok tb_ok rfl mixed Tryd.func30 rfl rfl (Nat.le_of_ble_eq_true rfl) ?_; intro Γ C WK LP fin h0 hW hC hB hR hLP hfin
   (try (conv => whnf)); (repeat ((first | refine qT ?_ | refine qF ?_ | refine qO ?_ | (with_reducible intro z hz); (first | (replace hz := hz (by omega); subst hz) | subst hz)); (try (conv => whnf))))
   refine Imms.mk [] rfl ?_
   exact hfin _ (ILes.refl _)
 have hi := id_ne hid
 rw [hue]
 unfold idv idl
 refine PC.of_va (T := tb0) eqs2_ok tb_ok rfl mixed Tryd.func30 rfl rfl (Nat.le_of_ble_eq_true rfl) ?_; intro Γ C WK LP fin h0 hW hC hB hR hLP hfin
 (try (conv => whnf)); (repeat ((first | refine qT ?_ | refine qF ?_ | refine qO ?_ | (with_reducible intro z hz); (first | (replace hz := hz (by omega); subst hz) | subst hz)); (try (conv => whnf))))
 refine hLP _ _ _ Nat (fun k => ⟨[(2, .ptr 0 1 0), (3, .ptr 1 1 0), (6, .imm (.int .i64 (k : Nat)))], [.box 1 [.imm (.int .i64 u.id.x), .imm (.int .i64 u.id.y), .imm (.int .i64 u.id.z), .imm (.int .i64 u.kind), .imm (.str u.label), .imm (.sl 4 (u.head.map wdv)), .imm (.sl 4 (u.words.map wdv)), .imm (.sl 8 (u.kids.map uv))], .box 1 [.imm (.int .i64 id.x), .imm (.int .i64 id.y), .imm (.int .i64 id.z)]]⟩) (fun k => k ≤ u.kids.length ∧ linK id (u.kids.take k) = []) (fun k => u.kids.length - k) 0 ⟨Nat.zero_le _, rfl⟩ (qSL 2 rfl rfl) ?_
 rintro k ⟨hk, hno⟩
 have hho := Nat.lt_or_ge k u.kids.length
 cases hho with
 | inl hlt =>
   obtain ⟨x, hx⟩ : ∃ x, u.kids[k]? = some x := ⟨u.kids[k], List.getElem?_eq_getElem hlt⟩
   have hux := uv_eq x
   have hc := kid_lt' hx
   have hI := ih x (by omega) (by omega)
   have hbl := bel_len id x
   have hbm : ((belA id x).map spv).length = (belA id x).length := List.length_map _
   rw [hux] at hI
   unfold idv idl at hI
   by_cases hf : linL id x = []
   · rw [show inU id x = false by unfold inU; rw [hf]; rfl] at hI
     (try (conv => whnf)); (repeat ((first | refine qT ?_ | refine qF ?_ | refine qO ?_ | (with_reducible intro z hz); (first | (replace hz := hz (by omega); subst hz) | subst hz)); (try (conv => whnf))))
     refine Idx.mk k (uv x) _ rfl (by simp [hx]) (by rw [hux]; try rfl) ?_
     (try (conv => whnf)); (repeat ((first | refine qT ?_ | refine qF ?_ | refine qO ?_ | (with_reducible intro z hz); (first | (replace hz := hz (by omega); subst hz) | subst hz) | (refine CallV.mk _ (hC _ _ _ (PCw.of hI)) (fun js hjs => ?_); subst hjs)); (try (conv => whnf))))
     exact ⟨k + 1, ⟨by omega, linK_step hx hno hf⟩, by dsimp only; omega, (qSL 2 rfl rfl)⟩
   · rw [show inU id x = true by unfold inU; cases hq : linL id x with | nil => exact absurd hq hf | cons a b => rfl] at hI
     obtain ⟨e1, e2⟩ := bel_kid hid hx hno hf
     rw [e2] at hfin
     have e3 : [spv (ustep x)] ++ (belA id x).map spv = (belA id u).map spv := by rw [e1]; rfl
     (try (conv => whnf)); (repeat ((first | refine qT ?_ | refine qF ?_ | refine qO ?_ | (with_reducible intro z hz); (first | (replace hz := hz (by omega); subst hz) | subst hz)); (try (conv => whnf))))
     refine Idx.mk k (uv x) _ rfl (by simp [hx]) (by rw [hux]; try rfl) ?_
     (try (conv => whnf)); (repeat ((first | refine qT ?_ | refine qF ?_ | refine qO ?_ | (with_reducible intro z hz); (first | (replace hz := hz (by omega); subst hz) | subst hz) | (refine CallV.mk _ (hC _ _ _ (PCw.of hI)) (fun js hjs => ?_); subst hjs)); (try (conv => whnf))))
     refine Idx.mk k (uv x) _ rfl (by simp [hx]) (by rw [hux]; try rfl) ?_
     (try (conv => whnf)); (repeat ((first | refine qT ?_ | refine qF ?_ | refine qO ?_ | (with_reducible intro z hz); (first | (replace hz := hz (by omega); subst hz) | subst hz)); (try (conv => whnf))))
     refine Idx.mk k (uv x) _ rfl (by simp [hx]) (by rw [hux]; try rfl) ?_
     (try (conv => whnf)); (repeat ((first | refine qT ?_ | refine qF ?_ | refine qO ?_ | (with_reducible intro z hz); (first | (replace hz := hz (by omega); subst hz) | subst hz)); (try (conv => whnf))))
     refine Imms.mk ((belA id u).map spv) (by rw [← e3, List.map_append]; rfl) ?_
     exact hfin _ (ILes.refl _)
 | inr hge =>
   obtain rfl : k = u.kids.length := by omega
   rw [List.take_length] at hno
   have hl := lin_none hid hno
   rw [show belA id u = [] by unfold belA; rw [hl]; rfl, show inU id u = false by unfold inU; rw [hl]; rfl] at hfin
   (try (conv => whnf)); (repeat ((first | refine qT ?_ | refine qF ?_ | refine qO ?_ | (with_reducible intro z hz); (first | (replace hz := hz (by omega); subst hz) | subst hz)); (try (conv => whnf))))
   exact hfin _ (.cons (.nil 2) (.refl _))
theorem whole_pc (id : Trip) (u : Ut) (hc : u.count ≤ 10000) (hl : linL id u ≠ []) : PC Tryd.prog envU 20 [uv u, idv id] [.sl 2 ((wayA id u).map spv), .bool true] := by
 have hBe := below_pc id u.count u (Nat.le_refl _) (by omega)
 have hue := uv_eq u
 have hbl := bel_len id u
 have hbm : ((belA id u).map spv).length = (belA id u).length := List.length_map _
 rw [show inU id u = true by unfold inU; cases hq : linL id u with | nil => exact absurd hq hl | cons a b => rfl] at hBe
 rw [way_bel hl]
 generalize belA id u = l at hBe hbl hbm ⊢
 rw [hue] at hBe ⊢
 unfold idv idl at *
 refine PC.of_va (T := tb0) eqs2_ok tb_ok rfl mixed Tryd.func20 rfl rfl (Nat.le_of_ble_eq_true rfl) ?_; intro Γ C WK LP fin h0 hW hC hB hR hLP hfin
 (try (conv => whnf)); (repeat ((first | refine qT ?_ | refine qF ?_ | refine qO ?_ | (with_reducible intro z hz); (first | (replace hz := hz (by omega); subst hz) | subst hz) | (refine CallV.mk _ (hC _ _ _ (PCw.of hBe)) (fun js hjs => ?_); subst hjs)); (try (conv => whnf))))
 refine Imms.mk ((bookS :: l).map spv) (by simp [bookS, spv, spl]) ?_
 exact hfin _ (ILes.refl _)
end Go.Proofs.YtiohjjgncbhimaaDoor.Pk
