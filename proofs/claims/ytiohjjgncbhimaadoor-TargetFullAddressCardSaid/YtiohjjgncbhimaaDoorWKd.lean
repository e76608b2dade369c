/-
  target.placer and its four functions. InsertionPoint; the reference's Where. The reference's One and Where.
-/
import Derived.Test.YtiohjjgncbhimaaDoorWKa
import Derived.Test.YtiohjjgncbhimaaDoorWAy
namespace Go.Proofs.YtiohjjgncbhimaaDoor.Pk
open Go Go.Pv Go.RowKit Go.Proofs.YtiohjjgncbhimaaDoor.Pu Go.Proofs.YtiohjjgncbhimaaDoor.Pa Go.Proofs.YtiohjjgncbhimaaDoor.Pb
set_option linter.unusedSimpArgs false
open Lab Lcs Go.Proofs.YtiohjjgncbhimaaDoor
set_option maxRecDepth 10000
set_option maxHeartbeats 16000000
theorem par_bound {t : Trip} {u : Ut} : -1 ≤ (parV t u).2.1 ∧ (parV t u).2.1 ≤ u.count := by
 unfold parV
 by_cases hn : linL t u = []
 · rw [hn]; exact ⟨by simp [parR], by simp only [parR]; omega⟩
 · obtain ⟨r, hr, hch, _⟩ := lin_chain t u hn
   cases hl : linL t u with
   | nil => exact absurd hl hn
   | cons x l =>
     cases l with
     | nil => exact ⟨by simp [parR], by simp only [parR]; omega⟩
     | cons p l =>
       have hp : p ∈ u.all := chain_in hch p (by rw [← hr, hl]; simp)
       have h1 := Pu.all_count hp
       have h2 := Ut.count_eq p
       have h3 := kids_counts p.kids
       have h4 : (p.kids.findIdx fun k => decide (k.id = t)) ≤ p.kids.length := List.findIdx_le_length
       simp only [parR]
       omega
theorem place1_pc (t : Trip) : PC Tryd.prog envU 40 [idv t] [idv t, .int .i64 0, .bool true] := by
 unfold idv idl
 refine PC.of_va (T := tb0) eqs2_ok tb_ok rfl mixed Tryd.func40 rfl rfl (Nat.le_of_ble_eq_true rfl) ?_; intro Γ C WK LP fin h0 hW hC hB hR hLP hfin
 (try (conv => whnf)); (repeat ((first | refine qT ?_ | refine qF ?_ | refine qO ?_ | (with_reducible intro z hz); (first | (replace hz := hz (by omega); subst hz) | subst hz)); (try (conv => whnf))))
 exact hfin _ (ILes.refl _)
theorem place2_pcb (u : Ut) (t : Trip) (hM : u.count ≤ 10000) (hs : small u) : PCB Tryd.prog envU 41 [.imm (idv t), .ptr 0 1 0] [.box 1 [.imm (.int .i64 u.id.x), .imm (.int .i64 u.id.y), .imm (.int .i64 u.id.z), .imm (.int .i64 u.kind), .imm (.str u.label), .imm (.sl 4 (u.head.map wdv)), .imm (.sl 4 (u.words.map wdv)), .imm (.sl 8 (u.kids.map uv))]] [.imm (idv t), .imm (.int .i64 ((findU t u).kids.length : Nat)), .imm (.bool (foundB t u))] [.box 1 [.imm (.int .i64 u.id.x), .imm (.int .i64 u.id.y), .imm (.int .i64 u.id.z), .imm (.int .i64 u.kind), .imm (.str u.label), .imm (.sl 4 (u.head.map wdv)), .imm (.sl 4 (u.words.map wdv)), .imm (.sl 8 (u.kids.map uv))]] := by
 have hF := find_pc t u (by omega) hs
 have hue := uv_eq u
 generalize findU t u = x at hF ⊢
 generalize foundB t u = b at hF ⊢
 have hux := uv_eq x
 rw [hue, hux] at hF
 have hml : (x.kids.map uv).length = x.kids.length := List.length_map _
 unfold idv idl at *
 refine PCB.of_va (T := tb0) eqs2_ok tb_ok rfl mixed Tryd.func41 rfl rfl rfl (Nat.le_of_ble_eq_true rfl) rfl ?_; intro Γ C WK LP fin h0 hk0 hW hC hB hR hLP hfin
 (try (conv => whnf)); (repeat ((first | refine qT ?_ | refine qF ?_ | refine qO ?_ | (with_reducible intro z hz); (first | (replace hz := hz (by omega); subst hz) | subst hz) | (refine CallV.mk _ (hC _ _ _ (PCw.of hF)) (fun js hjs => ?_); subst hjs)); (try (conv => whnf))))
 exact hfin _ (qSL 1 rfl rfl)
theorem place3_pcb (u : Ut) (t : Trip) (hM : u.count ≤ 10000) : PCB Tryd.prog envU 43 [.imm (idv t), .ptr 0 1 0] [.box 1 [.imm (.int .i64 u.id.x), .imm (.int .i64 u.id.y), .imm (.int .i64 u.id.z), .imm (.int .i64 u.kind), .imm (.str u.label), .imm (.sl 4 (u.head.map wdv)), .imm (.sl 4 (u.words.map wdv)), .imm (.sl 8 (u.kids.map uv))]] [.imm (idv (parV t u).1), .imm (.int .i64 ((parV t u).2.1 + 1)), .imm (.bool (parV t u).2.2)] [.box 1 [.imm (.int .i64 u.id.x), .imm (.int .i64 u.id.y), .imm (.int .i64 u.id.z), .imm (.int .i64 u.kind), .imm (.str u.label), .imm (.sl 4 (u.head.map wdv)), .imm (.sl 4 (u.words.map wdv)), .imm (.sl 8 (u.kids.map uv))]] := by
 have hF := parent_pc t u (by omega)
 have hb := par_bound (t := t) (u := u)
 have hue := uv_eq u
 generalize parV t u = q at hF hb ⊢
 rw [hue] at hF
 unfold idv idl at *
 refine PCB.of_va (T := tb0) eqs2_ok tb_ok rfl mixed Tryd.func43 rfl rfl rfl (Nat.le_of_ble_eq_true rfl) rfl ?_; intro Γ C WK LP fin h0 hk0 hW hC hB hR hLP hfin
 (try (conv => whnf)); (repeat ((first | refine qT ?_ | refine qF ?_ | refine qO ?_ | (with_reducible intro z hz); (first | (replace hz := hz (by omega); subst hz) | subst hz) | (refine CallV.mk _ (hC _ _ _ (PCw.of hF)) (fun js hjs => ?_); subst hjs)); (try (conv => whnf))))
 exact hfin _ (qSL 1 rfl rfl)
theorem place4_pcb (u : Ut) (t : Trip) (hM : u.count ≤ 10000) : PCB Tryd.prog envU 45 [.imm (idv t), .ptr 0 1 0] [.box 1 [.imm (.int .i64 u.id.x), .imm (.int .i64 u.id.y), .imm (.int .i64 u.id.z), .imm (.int .i64 u.kind), .imm (.str u.label), .imm (.sl 4 (u.head.map wdv)), .imm (.sl 4 (u.words.map wdv)), .imm (.sl 8 (u.kids.map uv))]] [.imm (idv (parV t u).1), .imm (.int .i64 (parV t u).2.1), .imm (.bool (parV t u).2.2)] [.box 1 [.imm (.int .i64 u.id.x), .imm (.int .i64 u.id.y), .imm (.int .i64 u.id.z), .imm (.int .i64 u.kind), .imm (.str u.label), .imm (.sl 4 (u.head.map wdv)), .imm (.sl 4 (u.words.map wdv)), .imm (.sl 8 (u.kids.map uv))]] := by
 have hF := parent_pc t u (by omega)
 have hue := uv_eq u
 generalize parV t u = q at hF ⊢
 rw [hue] at hF
 unfold idv idl at *
 refine PCB.of_va (T := tb0) eqs2_ok tb_ok rfl mixed Tryd.func45 rfl rfl rfl (Nat.le_of_ble_eq_true rfl) rfl ?_; intro Γ C WK LP fin h0 hk0 hW hC hB hR hLP hfin
 (try (conv => whnf)); (repeat ((first | refine qT ?_ | refine qF ?_ | refine qO ?_ | (with_reducible intro z hz); (first | (replace hz := hz (by omega); subst hz) | subst hz) | (refine CallV.mk _ (hC _ _ _ (PCw.of hF)) (fun js hjs => ?_); subst hjs)); (try (conv => whnf))))
 exact hfin _ (qSL 1 rfl rfl)
theorem placer0_pcb (u : Ut) : PCB Tryd.prog envU 28 [.imm (uv u), .imm (.int .i64 0)] [.dead 1] [.imm (.fn 40)] [.box 2 [.imm (.int .i64 u.id.x), .imm (.int .i64 u.id.y), .imm (.int .i64 u.id.z), .imm (.int .i64 u.kind), .imm (.str u.label), .imm (.sl 4 (u.head.map wdv)), .imm (.sl 4 (u.words.map wdv)), .imm (.sl 8 (u.kids.map uv))]] := by
 rw [uv_eq u]
 refine PCB.of_va (T := tb0) eqs2_ok tb_ok rfl mixed Tryd.func28 rfl rfl rfl (Nat.le_of_ble_eq_true rfl) rfl ?_; intro Γ C WK LP fin h0 hk0 hW hC hB hR hLP hfin
 (try (conv => whnf)); (repeat ((first | refine qT ?_ | refine qF ?_ | refine qO ?_ | (with_reducible intro z hz); (first | (replace hz := hz (by omega); subst hz) | subst hz)); (try (conv => whnf))))
 exact hfin _ (WeakA.trans (WeakA.adopt 0 1 2 (by decide) rfl rfl (by rw [h0]; exact Nat.le_of_ble_eq_true rfl) (by first | omega | (intro _; rw [hk0 _ _ rfl]; exact Nat.le_of_ble_eq_true rfl)) (by repeat (first | exact trivial | refine And.intro (mvL_imms _ _ _ _ _) ?_ | refine And.intro rfl ?_))) (qSL 1 rfl rfl))
theorem placer1_pcb (u : Ut) : PCB Tryd.prog envU 28 [.imm (uv u), .imm (.int .i64 1)] [.dead 1] [.clo 41 [.ptr 0 2 0]] [.box 2 [.imm (.int .i64 u.id.x), .imm (.int .i64 u.id.y), .imm (.int .i64 u.id.z), .imm (.int .i64 u.kind), .imm (.str u.label), .imm (.sl 4 (u.head.map wdv)), .imm (.sl 4 (u.words.map wdv)), .imm (.sl 8 (u.kids.map uv))]] := by
 rw [uv_eq u]
 refine PCB.of_va (T := tb0) eqs2_ok tb_ok rfl mixed Tryd.func28 rfl rfl rfl (Nat.le_of_ble_eq_true rfl) rfl ?_; intro Γ C WK LP fin h0 hk0 hW hC hB hR hLP hfin
 (try (conv => whnf)); (repeat ((first | refine qT ?_ | refine qF ?_ | refine qO ?_ | (with_reducible intro z hz); (first | (replace hz := hz (by omega); subst hz) | subst hz)); (try (conv => whnf))))
 exact hfin _ (WeakA.trans (WeakA.adopt 0 1 2 (by decide) rfl rfl (by rw [h0]; exact Nat.le_of_ble_eq_true rfl) (by first | omega | (intro _; rw [hk0 _ _ rfl]; exact Nat.le_of_ble_eq_true rfl)) (by repeat (first | exact trivial | refine And.intro (mvL_imms _ _ _ _ _) ?_ | refine And.intro rfl ?_))) (qSL 1 rfl rfl))
theorem placer3_pcb (u : Ut) : PCB Tryd.prog envU 28 [.imm (uv u), .imm (.int .i64 3)] [.dead 1] [.clo 45 [.ptr 0 2 0]] [.box 2 [.imm (.int .i64 u.id.x), .imm (.int .i64 u.id.y), .imm (.int .i64 u.id.z), .imm (.int .i64 u.kind), .imm (.str u.label), .imm (.sl 4 (u.head.map wdv)), .imm (.sl 4 (u.words.map wdv)), .imm (.sl 8 (u.kids.map uv))]] := by
 rw [uv_eq u]
 refine PCB.of_va (T := tb0) eqs2_ok tb_ok rfl mixed Tryd.func28 rfl rfl rfl (Nat.le_of_ble_eq_true rfl) rfl ?_; intro Γ C WK LP fin h0 hk0 hW hC hB hR hLP hfin
 (try (conv => whnf)); (repeat ((first | refine qT ?_ | refine qF ?_ | refine qO ?_ | (with_reducible intro z hz); (first | (replace hz := hz (by omega); subst hz) | subst hz)); (try (conv => whnf))))
 exact hfin _ (WeakA.trans (WeakA.adopt 0 1 2 (by decide) rfl rfl (by rw [h0]; exact Nat.le_of_ble_eq_true rfl) (by first | omega | (intro _; rw [hk0 _ _ rfl]; exact Nat.le_of_ble_eq_true rfl)) (by repeat (first | exact trivial | refine And.intro (mvL_imms _ _ _ _ _) ?_ | refine And.intro rfl ?_))) (qSL 1 rfl rfl))
theorem placer2_pcb (u : Ut) : PCB Tryd.prog envU 28 [.imm (uv u), .imm (.int .i64 2)] [.dead 1] [.clo 43 [.ptr 0 2 0]] [.box 2 [.imm (.int .i64 u.id.x), .imm (.int .i64 u.id.y), .imm (.int .i64 u.id.z), .imm (.int .i64 u.kind), .imm (.str u.label), .imm (.sl 4 (u.head.map wdv)), .imm (.sl 4 (u.words.map wdv)), .imm (.sl 8 (u.kids.map uv))]] := by
 rw [uv_eq u]
 refine PCB.of_va (T := tb0) eqs2_ok tb_ok rfl mixed Tryd.func28 rfl rfl rfl (Nat.le_of_ble_eq_true rfl) rfl ?_; intro Γ C WK LP fin h0 hk0 hW hC hB hR hLP hfin
 (try (conv => whnf)); (repeat ((first | refine qT ?_ | refine qF ?_ | refine qO ?_ | (with_reducible intro z hz); (first | (replace hz := hz (by omega); subst hz) | subst hz)); (try (conv => whnf))))
 exact hfin _ (WeakA.trans (WeakA.adopt 0 1 2 (by decide) rfl rfl (by rw [h0]; exact Nat.le_of_ble_eq_true rfl) (by first | omega | (intro _; rw [hk0 _ _ rfl]; exact Nat.le_of_ble_eq_true rfl)) (by repeat (first | exact trivial | refine And.intro (mvL_imms _ _ _ _ _) ?_ | refine And.intro rfl ?_))) (qSL 1 rfl rfl))
theorem placerN_pcb (u : Ut) (z : Int) (hz : ¬ (0 ≤ z ∧ z ≤ 3)) : PCB Tryd.prog envU 28 [.imm (uv u), .imm (.int .i64 z)] [.dead 1] [.imm .nf] [.box 2 [.imm (.int .i64 u.id.x), .imm (.int .i64 u.id.y), .imm (.int .i64 u.id.z), .imm (.int .i64 u.kind), .imm (.str u.label), .imm (.sl 4 (u.head.map wdv)), .imm (.sl 4 (u.words.map wdv)), .imm (.sl 8 (u.kids.map uv))]] := by
 rw [uv_eq u]
 refine PCB.of_va (T := tb0) eqs2_ok tb_ok rfl mixed Tryd.func28 rfl rfl rfl (Nat.le_of_ble_eq_true rfl) rfl ?_; intro Γ C WK LP fin h0 hk0 hW hC hB hR hLP hfin
 (try (conv => whnf)); (repeat ((first | refine qT ?_ | refine qF ?_ | refine qO ?_ | (with_reducible intro z hz); (first | (replace hz := hz (by omega); subst hz) | subst hz)); (try (conv => whnf))))
 exact hfin _ (WeakA.trans (WeakA.adopt 0 1 2 (by decide) rfl rfl (by rw [h0]; exact Nat.le_of_ble_eq_true rfl) (by first | omega | (intro _; rw [hk0 _ _ rfl]; exact Nat.le_of_ble_eq_true rfl)) (by repeat (first | exact trivial | refine And.intro (mvL_imms _ _ _ _ _) ?_ | refine And.intro rfl ?_))) (qSL 1 rfl rfl))
end Go.Proofs.YtiohjjgncbhimaaDoor.Pk
namespace Go.Proofs.YtiohjjgncbhimaaDoor.Pk
open Go Go.Pv Go.RowKit Go.Proofs.YtiohjjgncbhimaaDoor.Pu Go.Proofs.YtiohjjgncbhimaaDoor.Pa Go.Proofs.YtiohjjgncbhimaaDoor.Pb
set_option linter.unusedSimpArgs false
open Lab Lcs Go.Proofs.YtiohjjgncbhimaaDoor
set_option maxRecDepth 10000
set_option maxHeartbeats 16000000
def placeF (u : Ut) (z : Int) (t : Trip) : Trip × Int × Bool := if z = 0 then (t, 0, true) else if z = 1 then (t, (((findU t u).kids.length : Nat) : Int), foundB t u) else if z = 2 then ((parV t u).1, (parV t u).2.1 + 1, (parV t u).2.2) else parV t u
def insG (o : Trip × Int) (f : Trip → Trip × Int × Bool) : Trip × Int × Int := if o.2 = 0 then (if (f o.1).2.2 = true then ((f o.1).1, (f o.1).2.1, 0) else (Trip.zero, 0, 9)) else (Trip.zero, 0, o.2)
noncomputable def insA (u : Ut) (p : List Stp) (z : Int) : Trip × Int × Int := if 0 ≤ z ∧ z ≤ 3 then insG (oneA u p) (placeF u z) else (Trip.zero, 0, 1)
def out3 (q : Trip × Int × Int) : List IV := [idv q.1, .int .i64 q.2.1, .int .i64 q.2.2]
theorem ins0_pc (u : Ut) (p : List Stp) (hc : u.count ≤ 10000) (_hs : small u) (hp : ∀ s ∈ p, shortS s) : PC Tryd.prog envU 15 [uv u, .sl 2 (p.map spv), .int .i64 0] (out3 (insG (oneA u p) (placeF u 0))) := by
 have hP := placer0_pcb u
 have hO := findOne_pc u p hc hp
 have hue := uv_eq u
 generalize oneA u p = o at hO ⊢
 obtain ⟨t, e⟩ := o
 have hF := place1_pc t
 unfold out3 insG placeF
 dsimp only at hO ⊢
 simp only [if_true]
 rw [hue] at hP hO ⊢
 unfold idv idl at *
 by_cases h0 : e = 0
 · rw [if_pos h0]
   (try rw [if_pos rfl])
   refine PC.of_va (T := tb0) eqs2_ok tb_ok rfl mixed Tryd.func15 rfl rfl (Nat.le_of_ble_eq_true rfl) ?_; intro Γ C WK LP fin h0 hW hC hB hR hLP hfin
   (try (conv => whnf)); (repeat ((first | refine qT ?_ | refine qF ?_ | refine qO ?_ | (with_reducible intro z hz); (first | (replace hz := hz (by omega); subst hz) | subst hz)); (try (conv => whnf))))
   refine CallB.mk ([.imm (.fn 40)]) ([.box 2 [.imm (.int .i64 u.id.x), .imm (.int .i64 u.id.y), .imm (.int .i64 u.id.z), .imm (.int .i64 u.kind), .imm (.str u.label), .imm (.sl 4 (u.head.map wdv)), .imm (.sl 4 (u.words.map wdv)), .imm (.sl 8 (u.kids.map uv))]]) (hB _ _ _ _ _ (hP)) ?_
   (try (conv => whnf)); (repeat ((first | refine qT ?_ | refine qF ?_ | refine qO ?_ | (with_reducible intro z hz); (first | (replace hz := hz (by omega); subst hz) | subst hz) | (refine CallV.mk _ (hC _ _ _ (PCw.of hO)) (fun js hjs => ?_); subst hjs) | (refine CallV.mk _ (hC _ _ _ (PCw.of hF)) (fun js hjs => ?_); subst hjs)); (try (conv => whnf))))
   exact hfin _ (ILes.refl _)
 · rw [if_neg h0]
   refine PC.of_va (T := tb0) eqs2_ok tb_ok rfl mixed Tryd.func15 rfl rfl (Nat.le_of_ble_eq_true rfl) ?_; intro Γ C WK LP fin h0 hW hC hB hR hLP hfin
   (try (conv => whnf)); (repeat ((first | refine qT ?_ | refine qF ?_ | refine qO ?_ | (with_reducible intro z hz); (first | (replace hz := hz (by omega); subst hz) | subst hz)); (try (conv => whnf))))
   refine CallB.mk ([.imm (.fn 40)]) ([.box 2 [.imm (.int .i64 u.id.x), .imm (.int .i64 u.id.y), .imm (.int .i64 u.id.z), .imm (.int .i64 u.kind), .imm (.str u.label), .imm (.sl 4 (u.head.map wdv)), .imm (.sl 4 (u.words.map wdv)), .imm (.sl 8 (u.kids.map uv))]]) (hB _ _ _ _ _ (hP)) ?_
   (try (conv => whnf)); (repeat ((first | refine qT ?_ | refine qF ?_ | refine qO ?_ | (with_reducible intro z hz); (first | (replace hz := hz (by omega); subst hz) | subst hz) | (refine CallV.mk _ (hC _ _ _ (PCw.of hO)) (fun js hjs => ?_); subst hjs)); (try (conv => whnf))))
   exact hfin _ (ILes.refl _)
theorem ins1_pc (u : Ut) (p : List Stp) (hc : u.count ≤ 10000) (hs : small u) (hp : ∀ s ∈ p, shortS s) : PC Tryd.prog envU 15 [uv u, .sl 2 (p.map spv), .int .i64 1] (out3 (insG (oneA u p) (placeF u 1))) := by
 have hP := placer1_pcb u
 have hO := findOne_pc u p hc hp
 have hue := uv_eq u
 generalize oneA u p = o at hO ⊢
 obtain ⟨t, e⟩ := o
 have hF := place2_pcb u t hc hs
 unfold out3 insG placeF
 dsimp only at hO ⊢
 simp only [show ((1 : Int) = 0) = False from by simp, if_false, if_true]
 generalize (((findU t u).kids.length : Nat) : Int) = n at hF ⊢
 generalize foundB t u = b at hF ⊢
 rw [hue] at hP hO ⊢
 unfold idv idl at *
 by_cases h0 : e = 0
 · rw [if_pos h0]
   cases b
   · (try rw [if_neg (by decide)])
     refine PC.of_va (T := tb0) eqs2_ok tb_ok rfl mixed Tryd.func15 rfl rfl (Nat.le_of_ble_eq_true rfl) ?_; intro Γ C WK LP fin h0 hW hC hB hR hLP hfin
     (try (conv => whnf)); (repeat ((first | refine qT ?_ | refine qF ?_ | refine qO ?_ | (with_reducible intro z hz); (first | (replace hz := hz (by omega); subst hz) | subst hz)); (try (conv => whnf))))
     refine CallB.mk ([.clo 41 [.ptr 0 2 0]]) ([.box 2 [.imm (.int .i64 u.id.x), .imm (.int .i64 u.id.y), .imm (.int .i64 u.id.z), .imm (.int .i64 u.kind), .imm (.str u.label), .imm (.sl 4 (u.head.map wdv)), .imm (.sl 4 (u.words.map wdv)), .imm (.sl 8 (u.kids.map uv))]]) (hB _ _ _ _ _ (hP)) ?_
     (try (conv => whnf)); (repeat ((first | refine qT ?_ | refine qF ?_ | refine qO ?_ | (with_reducible intro z hz); (first | (replace hz := hz (by omega); subst hz) | subst hz) | (refine CallV.mk _ (hC _ _ _ (PCw.of hO)) (fun js hjs => ?_); subst hjs)); (try (conv => whnf))))
     refine CallB.mk ([.imm (idv t), .imm (.int .i64 n), .imm (.bool false)]) ([.box 1 [.imm (.int .i64 u.id.x), .imm (.int .i64 u.id.y), .imm (.int .i64 u.id.z), .imm (.int .i64 u.kind), .imm (.str u.label), .imm (.sl 4 (u.head.map wdv)), .imm (.sl 4 (u.words.map wdv)), .imm (.sl 8 (u.kids.map uv))]]) (hB _ _ _ _ _ (hF)) ?_
     (try (conv => whnf)); (repeat ((first | refine qT ?_ | refine qF ?_ | refine qO ?_ | (with_reducible intro z hz); (first | (replace hz := hz (by omega); subst hz) | subst hz)); (try (conv => whnf))))
     exact hfin _ (ILes.refl _)
   · (try rw [if_pos rfl])
     refine PC.of_va (T := tb0) eqs2_ok tb_ok rfl mixed Tryd.func15 rfl rfl (Nat.le_of_ble_eq_true rfl) ?_; intro Γ C WK LP fin h0 hW hC hB hR hLP hfin
     (try (conv => whnf)); (repeat ((first | refine qT ?_ | refine qF ?_ | refine qO ?_ | (with_reducible intro z hz); (first | (replace hz := hz (by omega); subst hz) | subst hz)); (try (conv => whnf))))
     refine CallB.mk ([.clo 41 [.ptr 0 2 0]]) ([.box 2 [.imm (.int .i64 u.id.x), .imm (.int .i64 u.id.y), .imm (.int .i64 u.id.z), .imm (.int .i64 u.kind), .imm (.str u.label), .imm (.sl 4 (u.head.map wdv)), .imm (.sl 4 (u.words.map wdv)), .imm (.sl 8 (u.kids.map uv))]]) (hB _ _ _ _ _ (hP)) ?_
     (try (conv => whnf)); (repeat ((first | refine qT ?_ | refine qF ?_ | refine qO ?_ | (with_reducible intro z hz); (first | (replace hz := hz (by omega); subst hz) | subst hz) | (refine CallV.mk _ (hC _ _ _ (PCw.of hO)) (fun js hjs => ?_); subst hjs)); (try (conv => whnf))))
     refine CallB.mk ([.imm (idv t), .imm (.int .i64 n), .imm (.bool true)]) ([.box 1 [.imm (.int .i64 u.id.x), .imm (.int .i64 u.id.y), .imm (.int .i64 u.id.z), .imm (.int .i64 u.kind), .imm (.str u.label), .imm (.sl 4 (u.head.map wdv)), .imm (.sl 4 (u.words.map wdv)), .imm (.sl 8 (u.kids.map uv))]]) (hB _ _ _ _ _ (hF)) ?_
     (try (conv => whnf)); (repeat ((first | refine qT ?_ | refine qF ?_ | refine qO ?_ | (with_reducible intro z hz); (first | (replace hz := hz (by omega); subst hz) | subst hz)); (try (conv => whnf))))
     exact hfin _ (ILes.refl _)
 · rw [if_neg h0]
   refine PC.of_va (T := tb0) eqs2_ok tb_ok rfl mixed Tryd.func15 rfl rfl (Nat.le_of_ble_eq_true rfl) ?_; intro Γ C WK LP fin h0 hW hC hB hR hLP hfin
   (try (conv => whnf)); (repeat ((first | refine qT ?_ | refine qF ?_ | refine qO ?_ | (with_reducible intro z hz); (first | (replace hz := hz (by omega); subst hz) | subst hz)); (try (conv => whnf))))
   refine CallB.mk ([.clo 41 [.ptr 0 2 0]]) ([.box 2 [.imm (.int .i64 u.id.x), .imm (.int .i64 u.id.y), .imm (.int .i64 u.id.z), .imm (.int .i64 u.kind), .imm (.str u.label), .imm (.sl 4 (u.head.map wdv)), .imm (.sl 4 (u.words.map wdv)), .imm (.sl 8 (u.kids.map uv))]]) (hB _ _ _ _ _ (hP)) ?_
   (try (conv => whnf)); (repeat ((first | refine qT ?_ | refine qF ?_ | refine qO ?_ | (with_reducible intro z hz); (first | (replace hz := hz (by omega); subst hz) | subst hz) | (refine CallV.mk _ (hC _ _ _ (PCw.of hO)) (fun js hjs => ?_); subst hjs)); (try (conv => whnf))))
   exact hfin _ (ILes.refl _)
theorem ins2_pc (u : Ut) (p : List Stp) (hc : u.count ≤ 10000) (_hs : small u) (hp : ∀ s ∈ p, shortS s) : PC Tryd.prog envU 15 [uv u, .sl 2 (p.map spv), .int .i64 2] (out3 (insG (oneA u p) (placeF u 2))) := by
 have hP := placer2_pcb u
 have hO := findOne_pc u p hc hp
 have hue := uv_eq u
 generalize oneA u p = o at hO ⊢
 obtain ⟨t, e⟩ := o
 have hF := place3_pcb u t hc
 unfold out3 insG placeF
 dsimp only at hO ⊢
 simp only [show ((2 : Int) = 0) = False from by simp, show ((2 : Int) = 1) = False from by simp, if_false, if_true]
 generalize (parV t u).2.1 + 1 = n at hF ⊢
 generalize (parV t u).1 = q at hF ⊢
 generalize (parV t u).2.2 = b at hF ⊢
 rw [hue] at hP hO ⊢
 unfold idv idl at *
 by_cases h0 : e = 0
 · rw [if_pos h0]
   cases b
   · (try rw [if_neg (by decide)])
     refine PC.of_va (T := tb0) eqs2_ok tb_ok rfl mixed Tryd.func15 rfl rfl (Nat.le_of_ble_eq_true rfl) ?_; intro Γ C WK LP fin h0 hW hC hB hR hLP hfin
     (try (conv => whnf)); (repeat ((first | refine qT ?_ | refine qF ?_ | refine qO ?_ | (with_reducible intro z hz); (first | (replace hz := hz (by omega); subst hz) | subst hz)); (try (conv => whnf))))
     refine CallB.mk ([.clo 43 [.ptr 0 2 0]]) ([.box 2 [.imm (.int .i64 u.id.x), .imm (.int .i64 u.id.y), .imm (.int .i64 u.id.z), .imm (.int .i64 u.kind), .imm (.str u.label), .imm (.sl 4 (u.head.map wdv)), .imm (.sl 4 (u.words.map wdv)), .imm (.sl 8 (u.kids.map uv))]]) (hB _ _ _ _ _ (hP)) ?_
     (try (conv => whnf)); (repeat ((first | refine qT ?_ | refine qF ?_ | refine qO ?_ | (with_reducible intro z hz); (first | (replace hz := hz (by omega); subst hz) | subst hz) | (refine CallV.mk _ (hC _ _ _ (PCw.of hO)) (fun js hjs => ?_); subst hjs)); (try (conv => whnf))))
     refine CallB.mk ([.imm (idv q), .imm (.int .i64 n), .imm (.bool false)]) ([.box 1 [.imm (.int .i64 u.id.x), .imm (.int .i64 u.id.y), .imm (.int .i64 u.id.z), .imm (.int .i64 u.kind), .imm (.str u.label), .imm (.sl 4 (u.head.map wdv)), .imm (.sl 4 (u.words.map wdv)), .imm (.sl 8 (u.kids.map uv))]]) (hB _ _ _ _ _ (hF)) ?_
     (try (conv => whnf)); (repeat ((first | refine qT ?_ | refine qF ?_ | refine qO ?_ | (with_reducible intro z hz); (first | (replace hz := hz (by omega); subst hz) | subst hz)); (try (conv => whnf))))
     exact hfin _ (ILes.refl _)
   · (try rw [if_pos rfl])
     refine PC.of_va (T := tb0) eqs2_ok tb_ok rfl mixed Tryd.func15 rfl rfl (Nat.le_of_ble_eq_true rfl) ?_; intro Γ C WK LP fin h0 hW hC hB hR hLP hfin
     (try (conv => whnf)); (repeat ((first | refine qT ?_ | refine qF ?_ | refine qO ?_ | (with_reducible intro z hz); (first | (replace hz := hz (by omega); subst hz) | subst hz)); (try (conv => whnf))))
     refine CallB.mk ([.clo 43 [.ptr 0 2 0]]) ([.box 2 [.imm (.int .i64 u.id.x), .imm (.int .i64 u.id.y), .imm (.int .i64 u.id.z), .imm (.int .i64 u.kind), .imm (.str u.label), .imm (.sl 4 (u.head.map wdv)), .imm (.sl 4 (u.words.map wdv)), .imm (.sl 8 (u.kids.map uv))]]) (hB _ _ _ _ _ (hP)) ?_
     (try (conv => whnf)); (repeat ((first | refine qT ?_ | refine qF ?_ | refine qO ?_ | (with_reducible intro z hz); (first | (replace hz := hz (by omega); subst hz) | subst hz) | (refine CallV.mk _ (hC _ _ _ (PCw.of hO)) (fun js hjs => ?_); subst hjs)); (try (conv => whnf))))
     refine CallB.mk ([.imm (idv q), .imm (.int .i64 n), .imm (.bool true)]) ([.box 1 [.imm (.int .i64 u.id.x), .imm (.int .i64 u.id.y), .imm (.int .i64 u.id.z), .imm (.int .i64 u.kind), .imm (.str u.label), .imm (.sl 4 (u.head.map wdv)), .imm (.sl 4 (u.words.map wdv)), .imm (.sl 8 (u.kids.map uv))]]) (hB _ _ _ _ _ (hF)) ?_
     (try (conv => whnf)); (repeat ((first | refine qT ?_ | refine qF ?_ | refine qO ?_ | (with_reducible intro z hz); (first | (replace hz := hz (by omega); subst hz) | subst hz)); (try (conv => whnf))))
     exact hfin _ (ILes.refl _)
 · rw [if_neg h0]
   refine PC.of_va (T := tb0) eqs2_ok tb_ok rfl mixed Tryd.func15 rfl rfl (Nat.le_of_ble_eq_true rfl) ?_; intro Γ C WK LP fin h0 hW hC hB hR hLP hfin
   (try (conv => whnf)); (repeat ((first | refine qT ?_ | refine qF ?_ | refine qO ?_ | (with_reducible intro z hz); (first | (replace hz := hz (by omega); subst hz) | subst hz)); (try (conv => whnf))))
   refine CallB.mk ([.clo 43 [.ptr 0 2 0]]) ([.box 2 [.imm (.int .i64 u.id.x), .imm (.int .i64 u.id.y), .imm (.int .i64 u.id.z), .imm (.int .i64 u.kind), .imm (.str u.label), .imm (.sl 4 (u.head.map wdv)), .imm (.sl 4 (u.words.map wdv)), .imm (.sl 8 (u.kids.map uv))]]) (hB _ _ _ _ _ (hP)) ?_
   (try (conv => whnf)); (repeat ((first | refine qT ?_ | refine qF ?_ | refine qO ?_ | (with_reducible intro z hz); (first | (replace hz := hz (by omega); subst hz) | subst hz) | (refine CallV.mk _ (hC _ _ _ (PCw.of hO)) (fun js hjs => ?_); subst hjs)); (try (conv => whnf))))
   exact hfin _ (ILes.refl _)
theorem ins3_pc (u : Ut) (p : List Stp) (hc : u.count ≤ 10000) (_hs : small u) (hp : ∀ s ∈ p, shortS s) : PC Tryd.prog envU 15 [uv u, .sl 2 (p.map spv), .int .i64 3] (out3 (insG (oneA u p) (placeF u 3))) := by
 have hP := placer3_pcb u
 have hO := findOne_pc u p hc hp
 have hue := uv_eq u
 generalize oneA u p = o at hO ⊢
 obtain ⟨t, e⟩ := o
 have hF := place4_pcb u t hc
 unfold out3 insG placeF
 dsimp only at hO ⊢
 simp only [show ((3 : Int) = 0) = False from by simp, show ((3 : Int) = 1) = False from by simp, show ((3 : Int) = 2) = False from by simp, if_false]
 generalize (parV t u).2.1 = n at hF ⊢
 generalize (parV t u).1 = q at hF ⊢
 generalize (parV t u).2.2 = b at hF ⊢
 rw [hue] at hP hO ⊢
 unfold idv idl at *
 by_cases h0 : e = 0
 · rw [if_pos h0]
   cases b
   · (try rw [if_neg (by decide)])
     refine PC.of_va (T := tb0) eqs2_ok tb_ok rfl mixed Tryd.func15 rfl rfl (Nat.le_of_ble_eq_true rfl) ?_; intro Γ C WK LP fin h0 hW hC hB hR hLP hfin
     (try (conv => whnf)); (repeat ((first | refine qT ?_ | refine qF ?_ | refine qO ?_ | (with_reducible intro z hz); (first | (replace hz := hz (by omega); subst hz) | subst hz)); (try (conv => whnf))))
     refine CallB.mk ([.clo 45 [.ptr 0 2 0]]) ([.box 2 [.imm (.int .i64 u.id.x), .imm (.int .i64 u.id.y), .imm (.int .i64 u.id.z), .imm (.int .i64 u.kind), .imm (.str u.label), .imm (.sl 4 (u.head.map wdv)), .imm (.sl 4 (u.words.map wdv)), .imm (.sl 8 (u.kids.map uv))]]) (hB _ _ _ _ _ (hP)) ?_
     (try (conv => whnf)); (repeat ((first | refine qT ?_ | refine qF ?_ | refine qO ?_ | (with_reducible intro z hz); (first | (replace hz := hz (by omega); subst hz) | subst hz) | (refine CallV.mk _ (hC _ _ _ (PCw.of hO)) (fun js hjs => ?_); subst hjs)); (try (conv => whnf))))
     refine CallB.mk ([.imm (idv q), .imm (.int .i64 n), .imm (.bool false)]) ([.box 1 [.imm (.int .i64 u.id.x), .imm (.int .i64 u.id.y), .imm (.int .i64 u.id.z), .imm (.int .i64 u.kind), .imm (.str u.label), .imm (.sl 4 (u.head.map wdv)), .imm (.sl 4 (u.words.map wdv)), .imm (.sl 8 (u.kids.map uv))]]) (hB _ _ _ _ _ (hF)) ?_
     (try (conv => whnf)); (repeat ((first | refine qT ?_ | refine qF ?_ | refine qO ?_ | (with_reducible intro z hz); (first | (replace hz := hz (by omega); subst hz) | subst hz)); (try (conv => whnf))))
     exact hfin _ (ILes.refl _)
   · (try rw [if_pos rfl])
     refine PC.of_va (T := tb0) eqs2_ok tb_ok rfl mixed Tryd.func15 rfl rfl (Nat.le_of_ble_eq_true rfl) ?_; intro Γ C WK LP fin h0 hW hC hB hR hLP hfin
     (try (conv => whnf)); (repeat ((first | refine qT ?_ | refine qF ?_ | refine qO ?_ | (with_reducible intro z hz); (first | (replace hz := hz (by omega); subst hz) | subst hz)); (try (conv => whnf))))
     refine CallB.mk ([.clo 45 [.ptr 0 2 0]]) ([.box 2 [.imm (.int .i64 u.id.x), .imm (.int .i64 u.id.y), .imm (.int .i64 u.id.z), .imm (.int .i64 u.kind), .imm (.str u.label), .imm (.sl 4 (u.head.map wdv)), .imm (.sl 4 (u.words.map wdv)), .imm (.sl 8 (u.kids.map uv))]]) (hB _ _ _ _ _ (hP)) ?_
     (try (conv => whnf)); (repeat ((first | refine qT ?_ | refine qF ?_ | refine qO ?_ | (with_reducible intro z hz); (first | (replace hz := hz (by omega); subst hz) | subst hz) | (refine CallV.mk _ (hC _ _ _ (PCw.of hO)) (fun js hjs => ?_); subst hjs)); (try (conv => whnf))))
     refine CallB.mk ([.imm (idv q), .imm (.int .i64 n), .imm (.bool true)]) ([.box 1 [.imm (.int .i64 u.id.x), .imm (.int .i64 u.id.y), .imm (.int .i64 u.id.z), .imm (.int .i64 u.kind), .imm (.str u.label), .imm (.sl 4 (u.head.map wdv)), .imm (.sl 4 (u.words.map wdv)), .imm (.sl 8 (u.kids.map uv))]]) (hB _ _ _ _ _ (hF)) ?_
     (try (conv => whnf)); (repeat ((first | refine qT ?_ | refine qF ?_ | refine qO ?_ | (with_reducible intro z hz); (first | (replace hz := hz (by omega); subst hz) | subst hz)); (try (conv => whnf))))
     exact hfin _ (ILes.refl _)
 · rw [if_neg h0]
   refine PC.of_va (T := tb0) eqs2_ok tb_ok rfl mixed Tryd.func15 rfl rfl (Nat.le_of_ble_eq_true rfl) ?_; intro Γ C WK LP fin h0 hW hC hB hR hLP hfin
   (try (conv => whnf)); (repeat ((first | refine qT ?_ | refine qF ?_ | refine qO ?_ | (with_reducible intro z hz); (first | (replace hz := hz (by omega); subst hz) | subst hz)); (try (conv => whnf))))
   refine CallB.mk ([.clo 45 [.ptr 0 2 0]]) ([.box 2 [.imm (.int .i64 u.id.x), .imm (.int .i64 u.id.y), .imm (.int .i64 u.id.z), .imm (.int .i64 u.kind), .imm (.str u.label), .imm (.sl 4 (u.head.map wdv)), .imm (.sl 4 (u.words.map wdv)), .imm (.sl 8 (u.kids.map uv))]]) (hB _ _ _ _ _ (hP)) ?_
   (try (conv => whnf)); (repeat ((first | refine qT ?_ | refine qF ?_ | refine qO ?_ | (with_reducible intro z hz); (first | (replace hz := hz (by omega); subst hz) | subst hz) | (refine CallV.mk _ (hC _ _ _ (PCw.of hO)) (fun js hjs => ?_); subst hjs)); (try (conv => whnf))))
   exact hfin _ (ILes.refl _)
theorem insN_pc (u : Ut) (p : List Stp) (z : Int) (hz : ¬ (0 ≤ z ∧ z ≤ 3)) : PC Tryd.prog envU 15 [uv u, .sl 2 (p.map spv), .int .i64 z] (out3 (Trip.zero, 0, 1)) := by
 have hP := placerN_pcb u z hz
 have hue := uv_eq u
 unfold out3
 rw [hue] at hP ⊢
 unfold idv idl at *
 refine PC.of_va (T := tb0) eqs2_ok tb_ok rfl mixed Tryd.func15 rfl rfl (Nat.le_of_ble_eq_true rfl) ?_; intro Γ C WK LP fin h0 hW hC hB hR hLP hfin
 (try (conv => whnf)); (repeat ((first | refine qT ?_ | refine qF ?_ | refine qO ?_ | (with_reducible intro z hz); (first | (replace hz := hz (by omega); subst hz) | subst hz)); (try (conv => whnf))))
 refine CallB.mk ([.imm .nf]) ([.box 2 [.imm (.int .i64 u.id.x), .imm (.int .i64 u.id.y), .imm (.int .i64 u.id.z), .imm (.int .i64 u.kind), .imm (.str u.label), .imm (.sl 4 (u.head.map wdv)), .imm (.sl 4 (u.words.map wdv)), .imm (.sl 8 (u.kids.map uv))]]) (hB _ _ _ _ _ (hP)) ?_
 (try (conv => whnf)); (repeat ((first | refine qT ?_ | refine qF ?_ | refine qO ?_ | (with_reducible intro z hz); (first | (replace hz := hz (by omega); subst hz) | subst hz)); (try (conv => whnf))))
 exact hfin _ (ILes.refl _)
theorem ins_pc (u : Ut) (p : List Stp) (z : Int) (hc : u.count ≤ 10000) (hs : small u) (hp : ∀ s ∈ p, shortS s) : PC Tryd.prog envU 15 [uv u, .sl 2 (p.map spv), .int .i64 z] (out3 (insA u p z)) := by
 unfold insA
 by_cases hz : 0 ≤ z ∧ z ≤ 3
 · rw [if_pos hz]
   obtain rfl | rfl | rfl | rfl : z = 0 ∨ z = 1 ∨ z = 2 ∨ z = 3 := by omega
   · exact ins0_pc u p hc hs hp
   · exact ins1_pc u p hc hs hp
   · exact ins2_pc u p hc hs hp
   · exact ins3_pc u p hc hs hp
 · rw [if_neg hz]
   exact insN_pc u p z hz
end Go.Proofs.YtiohjjgncbhimaaDoor.Pk
namespace Go.Proofs.YtiohjjgncbhimaaDoor.Pk
open Go Go.Pv Go.RowKit Go.Proofs.YtiohjjgncbhimaaDoor.Pu Go.Proofs.YtiohjjgncbhimaaDoor.Pa Go.Proofs.YtiohjjgncbhimaaDoor.Pb
set_option linter.unusedSimpArgs false
open Lab Lcs Go.Proofs.YtiohjjgncbhimaaDoor
set_option maxRecDepth 10000
set_option maxHeartbeats 16000000
theorem one7_pc (u : Ut) (p : List Stp) (hc : u.count ≤ 10000) (hp : ∀ s ∈ p, shortS s) : PC Tryd.prog envU 11 [uv u, .sl 2 (p.map spv)] [idv (oneA u p).1, .int .i64 (oneA u p).2] :=
 rone_pc u p (rfind_pc7 u p hc (units_pc u p hc hp))
theorem all7_pc (u : Ut) (p : List Stp) (hc : u.count ≤ 10000) (hp : ∀ s ∈ p, shortS s) : PC Tryd.prog envU 14 [uv u, .sl 2 (p.map spv)] [.sl 3 ((findA u p).map idv)] :=
 rfind_pc7 u p hc (units_pc u p hc hp)
def whereF (u : Ut) (z : Int) (t : Trip) : Trip × Int × Int := if z = 0 then (t, 0, 0) else if z = 1 then (t, (((findU t u).kids.length : Nat) : Int), 0) else if t = u.id then (Trip.zero, 0, 9) else ((parV t u).1, (parV t u).2.1 + (if z = 2 then 1 else 0), 0)
noncomputable def whereA (u : Ut) (p : List Stp) (z : Int) : Trip × Int × Int := if 0 ≤ z ∧ z ≤ 3 then (if (oneA u p).2 = 0 then whereF u z (oneA u p).1 else (Trip.zero, 0, (oneA u p).2)) else (Trip.zero, 0, 1)
theorem where_pc (u : Ut) (p : List Stp) (z : Int) (hc : u.count ≤ 10000) (hp : ∀ s ∈ p, shortS s) : PC Tryd.prog envU 16 [uv u, .sl 2 (p.map spv), .int .i64 z] (out3 (whereA u p z)) := by
 have hue := uv_eq u
 unfold whereA
 by_cases hz : 0 ≤ z ∧ z ≤ 3
 case neg =>
   rw [if_neg hz]
   unfold out3
   rw [hue]
   unfold idv idl at *
   by_cases hz0 : z < 0
   · refine PC.of_va (T := tb0) eqs2_ok tb_ok rfl mixed Tryd.func16 rfl rfl (Nat.le_of_ble_eq_true rfl) ?_; intro Γ C WK LP fin h0 hW hC hB hR hLP hfin
     (try (conv => whnf)); (repeat ((first | refine qT ?_ | refine qF ?_ | refine qO ?_ | (with_reducible intro z hz); (first | (replace hz := hz (by omega); subst hz) | subst hz)); (try (conv => whnf))))
     exact hfin _ (ILes.refl _)
   · refine PC.of_va (T := tb0) eqs2_ok tb_ok rfl mixed Tryd.func16 rfl rfl (Nat.le_of_ble_eq_true rfl) ?_; intro Γ C WK LP fin h0 hW hC hB hR hLP hfin
     (try (conv => whnf)); (repeat ((first | refine qT ?_ | refine qF ?_ | refine qO ?_ | (with_reducible intro z hz); (first | (replace hz := hz (by omega); subst hz) | subst hz)); (try (conv => whnf))))
     exact hfin _ (ILes.refl _)
 rw [if_pos hz]
 have hO := one7_pc u p hc hp
 generalize oneA u p = o at hO ⊢
 obtain ⟨t, e⟩ := o
 dsimp only at hO ⊢
 by_cases h0 : e = 0
 case neg =>
   rw [if_neg h0]
   unfold out3
   rw [hue] at hO ⊢
   unfold idv idl at *
   refine PC.of_va (T := tb0) eqs2_ok tb_ok rfl mixed Tryd.func16 rfl rfl (Nat.le_of_ble_eq_true rfl) ?_; intro Γ C WK LP fin h0 hW hC hB hR hLP hfin
   (try (conv => whnf)); (repeat ((first | refine qT ?_ | refine qF ?_ | refine qO ?_ | (with_reducible intro z hz); (first | (replace hz := hz (by omega); subst hz) | subst hz) | (refine CallV.mk _ (hC _ _ _ (PCw.of hO)) (fun js hjs => ?_); subst hjs)); (try (conv => whnf))))
   exact hfin _ (ILes.refl _)
 rw [if_pos h0]
 have hF := rfind_pc t u.count u (Nat.le_refl _) (by omega)
 have hP := rparent_pc t u.count u (Nat.le_refl _) (by omega)
 have hb := par_bound (t := t) (u := u)
 unfold whereF
 generalize findU t u = x at hF ⊢
 generalize foundB t u = b at hF
 generalize parV t u = q at hP hb ⊢
 obtain ⟨q1, q2, q3⟩ := q
 dsimp only at hP hb ⊢
 have hux := uv_eq x
 have hml : (x.kids.map uv).length = x.kids.length := List.length_map _
 rw [hux] at hF
 unfold out3
 rw [hue] at hO hF hP ⊢
 by_cases z0 : z = 0
 · rw [if_pos z0]
   unfold idv idl at *
   refine PC.of_va (T := tb0) eqs2_ok tb_ok rfl mixed Tryd.func16 rfl rfl (Nat.le_of_ble_eq_true rfl) ?_; intro Γ C WK LP fin h0 hW hC hB hR hLP hfin
   (try (conv => whnf)); (repeat ((first | refine qT ?_ | refine qF ?_ | refine qO ?_ | (with_reducible intro z hz); (first | (replace hz := hz (by omega); subst hz) | subst hz) | (refine CallV.mk _ (hC _ _ _ (PCw.of hO)) (fun js hjs => ?_); subst hjs) | (refine CallV.mk _ (hC _ _ _ (PCw.of hF)) (fun js hjs => ?_); subst hjs)); (try (conv => whnf))))
   exact hfin _ (ILes.refl _)
 rw [if_neg z0]
 by_cases z1 : z = 1
 · rw [if_pos z1]
   unfold idv idl at *
   refine PC.of_va (T := tb0) eqs2_ok tb_ok rfl mixed Tryd.func16 rfl rfl (Nat.le_of_ble_eq_true rfl) ?_; intro Γ C WK LP fin h0 hW hC hB hR hLP hfin
   (try (conv => whnf)); (repeat ((first | refine qT ?_ | refine qF ?_ | refine qO ?_ | (with_reducible intro z hz); (first | (replace hz := hz (by omega); subst hz) | subst hz) | (refine CallV.mk _ (hC _ _ _ (PCw.of hO)) (fun js hjs => ?_); subst hjs) | (refine CallV.mk _ (hC _ _ _ (PCw.of hF)) (fun js hjs => ?_); subst hjs)); (try (conv => whnf))))
   refine hfin _ ?_
   rw [hml]
   exact ILes.refl _
 rw [if_neg z1]
 by_cases hr : t = u.id
 · have hi := id_eq hr
   rw [if_pos hr]
   unfold idv idl at *
   refine PC.of_va (T := tb0) eqs2_ok tb_ok rfl mixed Tryd.func16 rfl rfl (Nat.le_of_ble_eq_true rfl) ?_; intro Γ C WK LP fin h0 hW hC hB hR hLP hfin
   (try (conv => whnf)); (repeat ((first | refine qT ?_ | refine qF ?_ | refine qO ?_ | (with_reducible intro z hz); (first | (replace hz := hz (by omega); subst hz) | subst hz) | (refine CallV.mk _ (hC _ _ _ (PCw.of hO)) (fun js hjs => ?_); subst hjs) | (refine CallV.mk _ (hC _ _ _ (PCw.of hF)) (fun js hjs => ?_); subst hjs)); (try (conv => whnf))))
   exact hfin _ (ILes.refl _)
 have hi := id_ne hr
 rw [if_neg hr]
 unfold idv idl at *
 by_cases z2 : z = 2
 · rw [if_pos z2]
   refine PC.of_va (T := tb0) eqs2_ok tb_ok rfl mixed Tryd.func16 rfl rfl (Nat.le_of_ble_eq_true rfl) ?_; intro Γ C WK LP fin h0 hW hC hB hR hLP hfin
   (try (conv => whnf)); (repeat ((first | refine qT ?_ | refine qF ?_ | refine qO ?_ | (with_reducible intro z hz); (first | (replace hz := hz (by omega); subst hz) | subst hz) | (refine CallV.mk _ (hC _ _ _ (PCw.of hO)) (fun js hjs => ?_); subst hjs) | (refine CallV.mk _ (hC _ _ _ (PCw.of hF)) (fun js hjs => ?_); subst hjs) | (refine CallV.mk _ (hC _ _ _ (PCw.of hP)) (fun js hjs => ?_); subst hjs)); (try (conv => whnf))))
   exact hfin _ (ILes.refl _)
 · rw [if_neg z2, Int.add_zero]
   refine PC.of_va (T := tb0) eqs2_ok tb_ok rfl mixed Tryd.func16 rfl rfl (Nat.le_of_ble_eq_true rfl) ?_; intro Γ C WK LP fin h0 hW hC hB hR hLP hfin
   (try (conv => whnf)); (repeat ((first | refine qT ?_ | refine qF ?_ | refine qO ?_ | (with_reducible intro z hz); (first | (replace hz := hz (by omega); subst hz) | subst hz) | (refine CallV.mk _ (hC _ _ _ (PCw.of hO)) (fun js hjs => ?_); subst hjs) | (refine CallV.mk _ (hC _ _ _ (PCw.of hF)) (fun js hjs => ?_); subst hjs) | (refine CallV.mk _ (hC _ _ _ (PCw.of hP)) (fun js hjs => ?_); subst hjs)); (try (conv => whnf))))
   exact hfin _ (ILes.refl _)
theorem one_in {u : Ut} {p : List Stp} (h : (oneA u p).2 = 0) : linL (oneA u p).1 u ≠ [] := by
 unfold oneA at h ⊢
 cases hl : findA u p with
 | nil => rw [hl] at h; simp at h
 | cons t r =>
   cases r with
   | cons a b => rw [hl] at h; simp at h
   | nil =>
     have : t ∈ findA u p := by rw [hl]; exact List.mem_cons_self
     unfold findA at this
     obtain ⟨x, hx, rfl⟩ := List.mem_map.1 this
     have hx' : x ∈ u.all := by
       unfold unitsM at hx
       split at hx
       · exact units_in p x hx
       · cases hx
     exact lin_ne u x hx'
theorem found_of {u : Ut} {t : Trip} (h : linL t u ≠ []) : foundB t u = true := by
 unfold foundB
 cases hl : linL t u with
 | nil => exact absurd hl h
 | cons x r => rfl
theorem par_ok {u : Ut} {t : Trip} (h : linL t u ≠ []) : (parV t u).2.2 = !decide (t = u.id) := by
 unfold parV
 by_cases ht : t = u.id
 · rw [lin_self ht.symm, decide_eq_true ht]; rfl
 · rw [decide_eq_false ht]
   obtain ⟨r, hr, hch, hid⟩ := lin_chain t u h
   cases hl : linL t u with
   | nil => exact absurd hl h
   | cons x l =>
     cases l with
     | nil =>
       rw [hl] at hr
       simp only [List.reverse_cons, List.reverse_nil, List.nil_append, List.cons.injEq] at hr
       obtain ⟨rfl, rfl⟩ := hr
       exact absurd hid.symm ht
     | cons p l => rfl
theorem ins_where (u : Ut) (p : List Stp) (z : Int) : insA u p z = whereA u p z := by
 unfold insA whereA
 by_cases hz : 0 ≤ z ∧ z ≤ 3
 · rw [if_pos hz, if_pos hz]
   unfold insG
   by_cases h0 : (oneA u p).2 = 0
   · rw [if_pos h0, if_pos h0]
     have hl := one_in h0
     generalize (oneA u p).1 = t at hl ⊢
     unfold placeF whereF
     have hf := found_of hl
     have hp := par_ok hl
     by_cases z0 : z = 0
     · simp [z0]
     by_cases z1 : z = 1
     · simp [z1, hf]
     by_cases z2 : z = 2
     · by_cases ht : t = u.id
       · rw [decide_eq_true ht] at hp; rw [if_neg z0, if_neg z1, if_pos z2, if_neg z0, if_neg z1, if_pos ht]; dsimp only; rw [hp]; rfl
       · simp [z2, hp, ht]
     · by_cases ht : t = u.id
       · rw [decide_eq_true ht] at hp; rw [if_neg z0, if_neg z1, if_neg z2, if_neg z0, if_neg z1, if_pos ht, hp]; rfl
       · rw [if_neg z0, if_neg z1, if_neg z2, if_neg z0, if_neg z1, if_neg ht, hp, if_neg z2, decide_eq_false ht]; simp
   · rw [if_neg h0, if_neg h0]
 · rw [if_neg hz, if_neg hz]
end Go.Proofs.YtiohjjgncbhimaaDoor.Pk
