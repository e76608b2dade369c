/-
  The example; book; the laws of TargetInsertionPoint and TargetFind.
-/
import Derived.Test.YtiohjjgncbhimaaDoorWKd
import Derived.Test.YtiohjjgncbhimaaDoorWKe
namespace Go.Proofs.YtiohjjgncbhimaaDoor.Pk
open Go Go.Pv Go.RowKit Go.Proofs.YtiohjjgncbhimaaDoor.Pu Go.Proofs.YtiohjjgncbhimaaDoor.Pa Go.Proofs.YtiohjjgncbhimaaDoor.Pb
set_option linter.unusedSimpArgs false
open Lab Lcs Go.Proofs.YtiohjjgncbhimaaDoor
set_option maxRecDepth 10000
set_option maxHeartbeats 16000000
theorem PC.arg {P : Program} {X : Env} {f : FuncId} {args args' res : List IV} (h : PC P X f args' res) (hl : ILes args args') : PC P X f args res :=
 ⟨h.1, fun Q w vs hQ hg hX hvs => h.2 Q w vs hQ hg hX (hl.rep hvs)⟩
def k1 : Ut := .mk ⟨1, 0, 1⟩ 2 ⟨#[49]⟩ [] [] []
def k2 : Ut := .mk ⟨1, 0, 2⟩ 2 ⟨#[50]⟩ [] [] []
def u0 : Ut := .mk ⟨0, 0, 0⟩ 0 ⟨#[]⟩ [] [] [k1, k2]
def p0 : List Stp := [⟨2, ⟨#[49]⟩⟩]
theorem uv_u0 : uv u0 = .agg [.int .i64 0, .int .i64 0, .int .i64 0, .int .i64 0, .str ⟨#[]⟩, .sl 4 [], .sl 4 [], .sl 8 [.agg [.int .i64 1, .int .i64 0, .int .i64 1, .int .i64 2, .str ⟨#[49]⟩, .sl 4 [], .sl 4 [], .sl 8 []], .agg [.int .i64 1, .int .i64 0, .int .i64 2, .int .i64 2, .str ⟨#[50]⟩, .sl 4 [], .sl 4 [], .sl 8 []]]] := by
 rw [u0, uv_mk]; simp [k1, k2, uv_mk]
theorem nils3 (a b c k : Int) (l : Str) : ILe (.agg [.int .i64 a, .int .i64 b, .int .i64 c, .int .i64 k, .str l, .nil, .nil, .nil]) (.agg [.int .i64 a, .int .i64 b, .int .i64 c, .int .i64 k, .str l, .sl 4 [], .sl 4 [], .sl 8 []]) :=
 ILes.agg (.cons (.refl _) (.cons (.refl _) (.cons (.refl _) (.cons (.refl _) (.cons (.refl _) (.cons (.nil 4) (.cons (.nil 4) (.cons (.nil 8) (.refl [])))))))))
theorem may_p0 : mayA p0 = true := mayA_true ⟨by decide, fun i s hi hs => by
 match i, hi with
 | 0, _ =>
   simp only [p0, List.getElem?_cons_zero, Option.some.injEq] at hs
   subst hs
   decide +kernel⟩
theorem may_nil0 : mayA [] = true := mayA_true ⟨by simp, fun i s hi hs => by simp at hi⟩
theorem one_p0 : oneA u0 p0 = (⟨1, 0, 1⟩, 0) := by
 have : findA u0 p0 = [⟨1, 0, 1⟩] := by
   unfold findA unitsM
   rw [may_p0, if_pos rfl]
   decide +kernel
 unfold oneA
 rw [this]
theorem one_nil : oneA u0 [] = (⟨0, 0, 0⟩, 0) := by
 have : findA u0 [] = [⟨0, 0, 0⟩] := by
   unfold findA unitsM
   rw [may_nil0, if_pos rfl]
   rfl
 unfold oneA
 rw [this]
theorem ins_p0 : insA u0 p0 2 = (Trip.zero, 1, 0) := by
 unfold insA
 rw [one_p0]
 decide +kernel
theorem ins_nil : insA u0 [] 1 = (Trip.zero, 2, 0) := by
 unfold insA
 rw [one_nil]
 decide +kernel
theorem small_u0 : small u0 := fun x hx => by
 have : (u0.all.all fun x => decide (x.head.length ≤ 5 ∧ x.words.length ≤ 5)) = true := by decide +kernel
 have := List.all_eq_true.1 this x hx
 simp only [decide_eq_true_eq] at this
 omega
theorem short_p0 : ∀ s ∈ p0, shortS s := fun s hs => by
 rw [p0, List.mem_singleton] at hs
 subst hs
 unfold shortS
 decide +kernel
def ur0 : IV := .agg [.int .i64 0, .int .i64 0, .int .i64 0, .int .i64 0, .str ⟨#[]⟩, .nil, .nil, .sl 8 [.agg [.int .i64 1, .int .i64 0, .int .i64 1, .int .i64 2, .str ⟨#[49]⟩, .nil, .nil, .nil], .agg [.int .i64 1, .int .i64 0, .int .i64 2, .int .i64 2, .str ⟨#[50]⟩, .nil, .nil, .nil]]]
theorem ur0_le : ILe ur0 (uv u0) := by
 rw [uv_u0]
 exact ILes.agg (.cons (.refl _) (.cons (.refl _) (.cons (.refl _) (.cons (.refl _) (.cons (.refl _) (.cons (.nil 4) (.cons (.nil 4) (.cons (ILes.sl (.cons (nils3 _ _ _ _ _) (.cons (nils3 _ _ _ _ _) (.refl [])))) (.refl [])))))))))
theorem aw1 : PC Tryd.prog envU 15 [ur0, .sl 2 [.agg [.int .i64 2, .str ⟨#[49]⟩]], .int .i64 2] [.agg [.int .i64 0, .int .i64 0, .int .i64 0], .int .i64 1, .int .i64 0] := by
 have h := ins_pc u0 p0 2 (by decide +kernel) small_u0 short_p0
 rw [ins_p0] at h
 exact PC.arg h (.cons ur0_le (.refl _))
theorem aw2 : PC Tryd.prog envU 15 [ur0, .nil, .int .i64 1] [.agg [.int .i64 0, .int .i64 0, .int .i64 0], .int .i64 2, .int .i64 0] := by
 have h := ins_pc u0 [] 1 (by decide +kernel) small_u0 (fun s hs => by cases hs)
 rw [ins_nil] at h
 exact PC.arg h (.cons ur0_le (.cons (.nil 2) (.refl _)))
theorem awake_pc : PC Tryd.prog envU 7 [] [.bool true] := by
 have h1 := aw1
 have h2 := aw2
 unfold ur0 at h1 h2
 refine PC.of_va (T := (tbf fun r => match r with | 2 => [0] | _ => [])) eqs2_ok tb_ok rfl mixed Tryd.func7 rfl rfl (Nat.le_of_ble_eq_true rfl) ?_; intro Γ C WK LP fin h0 hW hC hB hR hLP hfin
 (try (conv => whnf)); (repeat ((first | refine qT ?_ | refine qF ?_ | refine qO ?_ | (with_reducible intro z hz); (first | (replace hz := hz (by omega); subst hz) | subst hz)); (try (conv => whnf))))
 refine Imms.mk [.agg [.int .i64 1, .int .i64 0, .int .i64 1, .int .i64 2, .str ⟨#[49]⟩, .nil, .nil, .nil], .agg [.int .i64 1, .int .i64 0, .int .i64 2, .int .i64 2, .str ⟨#[50]⟩, .nil, .nil, .nil]] rfl ?_
 (try (conv => whnf)); (repeat ((first | refine qT ?_ | refine qF ?_ | refine qO ?_ | (with_reducible intro z hz); (first | (replace hz := hz (by omega); subst hz) | subst hz)); (try (conv => whnf))))
 refine Imms.mk [.agg [.int .i64 2, .str ⟨#[49]⟩]] rfl ?_
 (try (conv => whnf)); (repeat ((first | refine qT ?_ | refine qF ?_ | refine qO ?_ | (with_reducible intro z hz); (first | (replace hz := hz (by omega); subst hz) | subst hz) | (refine CallV.mk _ (hC _ _ _ (PCw.of h1)) (fun js hjs => ?_); subst hjs) | (refine CallV.mk _ (hC _ _ _ (PCw.of h2)) (fun js hjs => ?_); subst hjs)); (try (conv => whnf))))
 exact hfin _ (ILes.refl _)
def bookL (u : Ut) : Bool := fewU u 30 && standsR u
theorem book_pc (u : Ut) (hok : okU u) : PC Tryd.prog envU 8 [uv u] [.bool (bookL u)] := by
 have hF := few_pc u 30 hok (by omega) (by omega)
 have hue := uv_eq u
 unfold bookL
 cases hf : fewU u 30
 · rw [hf] at hF
   rw [hue] at hF ⊢
   rw [Bool.false_and]
   refine PC.of_va (T := tb0) eqs2_ok tb_ok rfl mixed Tryd.func8 rfl rfl (Nat.le_of_ble_eq_true rfl) ?_; intro Γ C WK LP fin h0 hW hC hB hR hLP hfin
   (try (conv => whnf)); (repeat ((first | refine qT ?_ | refine qF ?_ | refine qO ?_ | (with_reducible intro z hz); (first | (replace hz := hz (by omega); subst hz) | subst hz) | (refine CallV.mk _ (hC _ _ _ (PCw.of hF)) (fun js hjs => ?_); subst hjs)); (try (conv => whnf))))
   exact hfin _ (ILes.refl _)
 · have hS := stands_pc u hok (few30 hf).2.1 (by have := (few30 hf).1; omega)
   rw [hf] at hF
   rw [hue] at hF hS ⊢
   rw [Bool.true_and]
   generalize standsR u = b at hS ⊢
   refine PC.of_va (T := tb0) eqs2_ok tb_ok rfl mixed Tryd.func8 rfl rfl (Nat.le_of_ble_eq_true rfl) ?_; intro Γ C WK LP fin h0 hW hC hB hR hLP hfin
   (try (conv => whnf)); (repeat ((first | refine qT ?_ | refine qF ?_ | refine qO ?_ | (with_reducible intro z hz); (first | (replace hz := hz (by omega); subst hz) | subst hz) | (refine CallV.mk _ (hC _ _ _ (PCw.of hF)) (fun js hjs => ?_); subst hjs) | (refine CallV.mk _ (hC _ _ _ (PCw.of hS)) (fun js hjs => ?_); subst hjs)); (try (conv => whnf))))
   exact hfin _ (ILes.refl _)
theorem bookL_facts {u : Ut} (h : bookL u = true) : u.count ≤ 30 ∧ Tame u ∧ small u ∧ standsR u = true := by
 unfold bookL at h
 rw [Bool.and_eq_true] at h
 exact ⟨(few30 h.1).1, (few30 h.1).2.1, (few30 h.1).2.2, h.2⟩
def itz (p : List Stp) : It := .mk 0 p [] 0 0 zeroU [] [] ⟨#[]⟩ ⟨#[]⟩ 0 0 ⟨#[]⟩ 0 0 0 ⟨#[]⟩ []
theorem ok_zeroU : okU zeroU := fun x hx => by
 have : zeroU.all = [zeroU] := by decide +kernel
 rw [this, List.mem_singleton] at hx
 subst hx
 refine ⟨⟨?_, ?_, ?_⟩, ?_⟩ <;> (unfold inI; simp [zeroU, Ut.id, Ut.kind, Trip.zero])
theorem itz_le (p : List Stp) : ILe (.agg [.int .i64 0, .sl 2 (p.map spv), .nil, .int .i64 0, .int .i64 0, .int .i64 0, .int .i64 0, .int .i64 0, .int .i64 0, .str ⟨#[]⟩, .nil, .nil, .nil, .nil, .nil, .str ⟨#[]⟩, .str ⟨#[]⟩, .int .i64 0, .int .i64 0, .str ⟨#[]⟩, .int .i64 0, .int .i64 0, .int .i64 0, .str ⟨#[]⟩, .nil]) (itv (itz p)) := by
 rw [itv_eq]
 exact ILes.agg (.cons (.refl _) (.cons (.refl _) (.cons (.nil 2) (.cons (.refl _) (.cons (.refl _) (.cons (.refl _) (.cons (.refl _) (.cons (.refl _) (.cons (.refl _) (.cons (.refl _) (.cons (.nil 4) (.cons (.nil 4) (.cons (.nil 8) (.cons (.nil 1) (.cons (.nil 1) (.cons (.refl _) (.cons (.refl _) (.cons (.refl _) (.cons (.refl _) (.cons (.refl _) (.cons (.refl _) (.cons (.refl _) (.cons (.refl _) (.cons (.refl _) (.cons (.nil 25) (.refl []))))))))))))))))))))))))))
theorem fewz_pc (p : List Stp) (hp : p.length ≤ maxLen) : PC Tryd.prog envU 9 [.agg [.int .i64 0, .sl 2 (p.map spv), .nil, .int .i64 0, .int .i64 0, .int .i64 0, .int .i64 0, .int .i64 0, .int .i64 0, .str ⟨#[]⟩, .nil, .nil, .nil, .nil, .nil, .str ⟨#[]⟩, .str ⟨#[]⟩, .int .i64 0, .int .i64 0, .str ⟨#[]⟩, .int .i64 0, .int .i64 0, .int .i64 0, .str ⟨#[]⟩, .nil]] [.bool (fewI (itz p))] :=
 PC.arg (few17_pc (itz p) (.mk _ ok_zeroU ⟨hp, Nat.zero_le _, Nat.zero_le _, Nat.zero_le _, Nat.zero_le _⟩ (fun y hy => by cases hy))) (.cons (itz_le p) (.refl _))
theorem few_at {x : It} (h : fewI x = true) : (∀ s ∈ x.p, shortS s) ∧ ∀ s ∈ x.q, shortS s := by
 rw [fewI_eq] at h
 simp only [Bool.and_eq_true] at h
 obtain ⟨_, _, _, h1, h2, _⟩ := h
 exact ⟨fun s hs => by have := List.all_eq_true.1 h1 s hs; unfold l100 at this; rw [decide_eq_true_eq] at this; unfold shortS; omega,
   fun s hs => by have := List.all_eq_true.1 h2 s hs; unfold l100 at this; rw [decide_eq_true_eq] at this; unfold shortS; omega⟩
theorem lawIns (u : Ut) (p : List Stp) (z : Int) (hok : okU u) (hp : p.length ≤ maxLen) : PC Tryd.prog envU 4 [uv u, .sl 2 (p.map spv), .int .i64 z] [.bool true] := by
 have hA := awake_pc
 have hK := book_pc u hok
 have hF := fewz_pc p hp
 have hue := uv_eq u
 cases hb : bookL u
 · rw [hb] at hK
   rw [hue] at hK ⊢
   refine PC.of_va (T := tb0) eqs2_ok tb_ok rfl mixed Tryd.func4 rfl rfl (Nat.le_of_ble_eq_true rfl) ?_; intro Γ C WK LP fin h0 hW hC hB hR hLP hfin
   (try (conv => whnf)); (repeat ((first | refine qT ?_ | refine qF ?_ | refine qO ?_ | (with_reducible intro z hz); (first | (replace hz := hz (by omega); subst hz) | subst hz) | (refine CallV.mk _ (hC _ _ _ (PCw.of hA)) (fun js hjs => ?_); subst hjs) | (refine CallV.mk _ (hC _ _ _ (PCw.of hK)) (fun js hjs => ?_); subst hjs)); (try (conv => whnf))))
   exact hfin _ (ILes.refl _)
 rw [hb] at hK
 cases hf : fewI (itz p)
 · rw [hf] at hF
   rw [hue] at hK ⊢
   refine PC.of_va (T := tb0) eqs2_ok tb_ok rfl mixed Tryd.func4 rfl rfl (Nat.le_of_ble_eq_true rfl) ?_; intro Γ C WK LP fin h0 hW hC hB hR hLP hfin
   (try (conv => whnf)); (repeat ((first | refine qT ?_ | refine qF ?_ | refine qO ?_ | (with_reducible intro z hz); (first | (replace hz := hz (by omega); subst hz) | subst hz) | (refine CallV.mk _ (hC _ _ _ (PCw.of hA)) (fun js hjs => ?_); subst hjs) | (refine CallV.mk _ (hC _ _ _ (PCw.of hK)) (fun js hjs => ?_); subst hjs) | (refine CallV.mk _ (hC _ _ _ (PCw.of hF)) (fun js hjs => ?_); subst hjs)); (try (conv => whnf))))
   exact hfin _ (ILes.refl _)
 rw [hf] at hF
 obtain ⟨hc, _, hs, _⟩ := bookL_facts hb
 have hsp := (few_at hf).1
 have h1 := ins_pc u p z (by omega) hs hsp
 have h2 := where_pc u p z (by omega) hsp
 rw [ins_where] at h1
 generalize whereA u p z = q at h1 h2
 have hi := id_eq (rfl : q.1 = q.1)
 unfold out3 idv idl at h1 h2
 rw [hue] at hK h1 h2 ⊢
 refine PC.of_va (T := tb0) eqs2_ok tb_ok rfl mixed Tryd.func4 rfl rfl (Nat.le_of_ble_eq_true rfl) ?_; intro Γ C WK LP fin h0 hW hC hB hR hLP hfin
 (try (conv => whnf)); (repeat ((first | refine qT ?_ | refine qF ?_ | refine qO ?_ | (with_reducible intro z hz); (first | (replace hz := hz (by omega); subst hz) | subst hz) | (refine CallV.mk _ (hC _ _ _ (PCw.of hA)) (fun js hjs => ?_); subst hjs) | (refine CallV.mk _ (hC _ _ _ (PCw.of hK)) (fun js hjs => ?_); subst hjs) | (refine CallV.mk _ (hC _ _ _ (PCw.of hF)) (fun js hjs => ?_); subst hjs) | (refine CallV.mk _ (hC _ _ _ (PCw.of h1)) (fun js hjs => ?_); subst hjs) | (refine CallV.mk _ (hC _ _ _ (PCw.of h2)) (fun js hjs => ?_); subst hjs)); (try (conv => whnf))))
 exact hfin _ (ILes.refl _)
end Go.Proofs.YtiohjjgncbhimaaDoor.Pk
