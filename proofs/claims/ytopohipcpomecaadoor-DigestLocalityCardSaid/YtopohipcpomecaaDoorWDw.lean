/-
  The program's fullSums: a map from IDs to hashes, by a closure that calls itself through its own box.
-/
import Derived.Test.YtopohipcpomecaaDoorWDv
namespace Go.Proofs.YtopohipcpomecaaDoor.Pd
open Go Go.Pv Go.RowKit Go.Proofs.YtopohipcpomecaaDoor.Pu Go.Proofs.YtopohipcpomecaaDoor.Pb
set_option linter.unusedSimpArgs false
open Lab Lcs Go.Proofs.YtopohipcpomecaaDoor
set_option maxRecDepth 10000
set_option maxHeartbeats 16000000
mutual
def visU : Ut → List (IV × IV) → List (IV × IV)
 | .mk id kind label head words kids, ps => match lookM ps (idv id) with
   | some _ => visL kids ps
   | none => putM (visL kids ps) (idv id) (.str (treeE true (.mk id kind label head words kids)))
def visL : List Ut → List (IV × IV) → List (IV × IV)
 | [], ps => ps
 | k :: r, ps => visL r (visU k ps)
end
theorem visU_eq (u : Ut) (ps : List (IV × IV)) : visU u ps = match lookM ps (idv u.id) with
   | some _ => visL u.kids ps
   | none => putM (visL u.kids ps) (idv u.id) (.str (treeE true u)) := by cases u; rw [visU]; rfl
theorem visL_take {l : List Ut} {k : Nat} {x : Ut} (h : l[k]? = some x) (ps : List (IV × IV)) : visL (l.take (k + 1)) ps = visU x (visL (l.take k) ps) := by
 have : ∀ (a b : List Ut) (ps : List (IV × IV)), visL (a ++ b) ps = visL b (visL a ps) := by
   intro a b
   induction a with
   | nil => intro ps; simp only [List.nil_append, visL]
   | cons x a ih => intro ps; simp only [List.cons_append, visL]; exact ih _
 rw [take_at h, this]
 simp only [visL]
abbrev kkI : MK := .cells 26 [.int .i64, .int .i64, .int .i64]
abbrev FV : FuncId := 54
abbrev vbk (ps : List (IV × IV)) : List Blk := [.box 1 [.row 2 1], .box 1 [.clo FV [.ptr 0 1 0, .ptr 1 1 0]], .map kkI 1 ps]
abbrev vck (ps : List (IV × IV)) : List CBk := [.box 1 [.row 2 1], .box 1 [.clo FV [.ptr 0 1 0, .ptr 1 1 0]], .map kkI 1 ps]
theorem treeSumV_pcb (s : Str) (kids : List Ut) (ps : List (IV × IV)) (h0s : 0 < s.size) (hs : s.size ≤ 50000000) (hk : kids.length ≤ 1000000) (hf : ∀ x ∈ kids, ∀ ps, PCB Tryd.prog envH FV [.imm (uv x), .ptr 0 1 0, .ptr 1 1 0] (vbk ps) [.imm (.str (treeE true x))] (vbk (visU x ps))) :
   PCB Tryd.prog envH 28 [.imm (.str s), .imm (.sl 8 (kids.map uv)), .clo FV [.ptr 0 1 0, .ptr 1 1 0]] (vbk ps) [.imm (.str (hashS (kidsE true s kids)))] (vbk (visL kids ps)) := by
 have hml : (kids.map uv).length = kids.length := List.length_map _
 have hWr := write0_pcb [] s (by unfold most; simp only [List.length_nil]; omega)
 have hks := kids_len true s
 refine PCB.of_va (T := (tbm0 (fun r => Nat.beq r 2) fun _ => 0)) eqs_ok tbm_ok rfl mixed Tryd.func28 rfl rfl rfl (Nat.le_of_ble_eq_true rfl) rfl ?_; intro Γ C WK LP fin h0 hk0 hW hC hB hR hLP hfin
 have h03 : Γ.n0 = 3 := h0
 (try (conv => whnf)); (repeat ((first | refine qT ?_ | refine qF ?_ | refine qO ?_ | (with_reducible intro z hz); (first | (replace hz := hz (by omega); subst hz) | subst hz)); (try (conv => whnf))))
 refine hW _ _ _ ((WeakA.nilBox 3 1 5 1 rfl rfl).trans (WeakA.row 4 (bytesV []) rfl (by rfl))) ?_
 (try (conv => whnf)); (repeat ((first | refine qT ?_ | refine qF ?_ | refine qO ?_ | (with_reducible intro z hz); (first | (replace hz := hz (by omega); subst hz) | subst hz)); (try (conv => whnf))))
 refine Imms.mk (bytesI []) rfl ?_
 (try (conv => whnf)); (repeat ((first | refine qT ?_ | refine qF ?_ | refine qO ?_ | (with_reducible intro z hz); (first | (replace hz := hz (by omega); subst hz) | subst hz)); (try (conv => whnf))))
 refine CallB.mk ([.imm (.int .i64 (s.size : Nat)), .any]) (cbl ([] ++ s.data.toList) 2) (hB _ _ _ _ _ (hWr)) ?_
 (try (conv => whnf)); (repeat ((first | refine qT ?_ | refine qF ?_ | refine qO ?_ | (with_reducible intro z hz); (first | (replace hz := hz (by omega); subst hz) | subst hz)); (try (conv => whnf))))
 refine hLP _ _ _ Nat (fun k => ⟨[(2, .clo FV [.ptr 0 1 0, .ptr 1 1 0]), (7, .ptr 3 1 0), (12, .imm (.sl 8 (kids.map uv))), (13, .imm (.int .i64 (kids.length : Nat))), (14, .imm (.int .i64 (k : Nat)))], [.box 1 [.row 2 1], .box 1 [.clo FV [.ptr 0 1 0, .ptr 1 1 0]], .map kkI 1 (visL (kids.take k) ps), .box 1 [.ptr 3 1 0, .row 4 1] (some 74), .row 5 1 1 (bytesV (kidsE true s (kids.take k)).data.toList)]⟩) (fun k => k ≤ kids.length) (fun k => kids.length - k) 0 (Nat.zero_le _) ((WeakA.row 4 (bytesV (kidsE true s (kids.take 0)).data.toList) rfl (by simp [kidsE])).trans ((WeakA.mapTo 2 ((visL (kids.take 0) ps)) rfl (by simp [visL])).trans ((WeakA.renew 4 1 rfl (by first | omega | (intro _; rw [hk0 _ _ rfl]; exact Nat.le_of_ble_eq_true rfl)) (by repeat (first | exact trivial | refine And.intro (rgL_imms _ _ _ _) ?_ | refine And.intro rfl ?_))).trans (qSL 5 rfl rfl)))) ?_
 intro k hkk
 have hz := hks (kids.take k)
 rw [List.length_take] at hz
 have hho := Nat.lt_or_ge k kids.length
 cases hho with
 | inl hlt =>
   refine (?_ : ∀ Q : Exit → AS → Prop, vcS _ _ _ _ _ _ _ (loopQA _ _ _ _ _ _ Q)) _; intro Q
   obtain ⟨x, hx⟩ : ∃ x, kids[k]? = some x := ⟨kids[k], List.getElem?_eq_getElem hlt⟩
   have hux := uv_eq x
   have hvt := visL_take hx ps
   have hI := hf x (List.mem_of_getElem? hx) (visL (kids.take k) ps)
   have hkb := kids_bytes true s hx
   have hzt := tree_len true x
   rw [hux] at hI
   generalize kidsE true s (kids.take k) = R at *
   generalize visL (kids.take k) ps = M at *
   have hW1 := write1_pcb R.data.toList (treeE true x) (by unfold most; rw [show R.data.toList.length = R.size from rfl]; omega)
   generalize treeE true x = c at *
   (try (conv => whnf)); (repeat ((first | refine qT ?_ | refine qF ?_ | refine qO ?_ | (with_reducible intro z hz); (first | (replace hz := hz (by omega); subst hz) | subst hz)); (try (conv => whnf))))
   refine Idx.mk k (uv x) _ rfl (by simp [hx]) (by rw [hux]; try rfl) ?_
   (try (conv => whnf)); (repeat ((first | refine qT ?_ | refine qF ?_ | refine qO ?_ | (with_reducible intro z hz); (first | (replace hz := hz (by omega); subst hz) | subst hz)); (try (conv => whnf))))
   refine CallB.mk ([.imm (.str c)]) (vck (visU x M)) (hB _ _ _ _ _ (hI)) ?_
   (try (conv => whnf)); (repeat ((first | refine qT ?_ | refine qF ?_ | refine qO ?_ | (with_reducible intro z hz); (first | (replace hz := hz (by omega); subst hz) | subst hz)); (try (conv => whnf))))
   refine Imms.mk (bytesI R.data.toList) rfl ?_
   (try (conv => whnf)); (repeat ((first | refine qT ?_ | refine qF ?_ | refine qO ?_ | (with_reducible intro z hz); (first | (replace hz := hz (by omega); subst hz) | subst hz)); (try (conv => whnf))))
   refine CallB.mk ([.imm (.int .i64 (c.size : Nat)), .any]) (cbl (R.data.toList ++ c.data.toList) 2) (hB _ _ _ _ _ (hW1)) ?_
   (try (conv => whnf)); (repeat ((first | refine qT ?_ | refine qF ?_ | refine qO ?_ | (with_reducible intro z hz); (first | (replace hz := hz (by omega); subst hz) | subst hz)); (try (conv => whnf))))
   exact ⟨k + 1, by omega, by dsimp only; omega, ((WeakA.row 4 (bytesV (kidsE true s (kids.take (k + 1))).data.toList) rfl (by rw [← hkb])).trans ((WeakA.mapTo 2 ((visL (kids.take (k + 1)) ps)) rfl (by exact hvt.symm)).trans ((WeakA.renew 4 1 rfl (by first | omega | (intro _; rw [hk0 _ _ rfl]; exact Nat.le_of_ble_eq_true rfl)) (by repeat (first | exact trivial | refine And.intro (rgL_imms _ _ _ _) ?_ | refine And.intro rfl ?_))).trans (qSL 5 rfl rfl))))⟩
 | inr hge =>
   obtain rfl : k = kids.length := by omega
   rw [List.take_length]
   have hz2 := hks kids
   have hS := string_pcb (kidsE true s kids).data.toList (by rw [show (kidsE true s kids).data.toList.length = (kidsE true s kids).size from rfl]; omega)
   rw [bytes_str] at hS
   have hX := sum_pc' (kidsE true s kids) (by omega)
   (try (conv => whnf)); (repeat ((first | refine qT ?_ | refine qF ?_ | refine qO ?_ | (with_reducible intro z hz); (first | (replace hz := hz (by omega); subst hz) | subst hz)); (try (conv => whnf))))
   refine Imms.mk (bytesI (kidsE true s kids).data.toList) rfl ?_
   (try (conv => whnf)); (repeat ((first | refine qT ?_ | refine qF ?_ | refine qO ?_ | (with_reducible intro z hz); (first | (replace hz := hz (by omega); subst hz) | subst hz)); (try (conv => whnf))))
   refine CallB.mk ([.imm (.str (kidsE true s kids))]) ([.box 1 [.ptr 0 1 0, .any] (some 74), .dead 2]) (hB _ _ _ _ _ (hS)) ?_
   (try (conv => whnf)); (repeat ((first | refine qT ?_ | refine qF ?_ | refine qO ?_ | (with_reducible intro z hz); (first | (replace hz := hz (by omega); subst hz) | subst hz) | (refine CallV.mk _ (hC _ _ _ (PCw.of hX)) (fun js hjs => ?_); subst hjs)); (try (conv => whnf))))
   exact hfin _ (qSL 3 rfl rfl)
theorem visit_pcb (N : Nat) : ∀ (u : Ut) (ps : List (IV × IV)), u.count ≤ N → FitD u → PCB Tryd.prog envH FV [.imm (uv u), .ptr 0 1 0, .ptr 1 1 0] (vbk ps) [.imm (.str (treeE true u))] (vbk (visU u ps)) := by
 induction N with
 | zero => intro u ps h; have := count_pos u; omega
 | succ N ih =>
 intro u ps hN hf
 have hue := uv_eq u
 have hs := hf.self
 have hE := encodeM_pc u hs
 have hT := treeSumV_pcb (aloneE true u) u.kids ps (alone_pos _ _) (by have := alone_len (m := true) hs; omega) hs.kids (fun x hx ps => ih x ps (by
   obtain ⟨k, hk, rfl⟩ := List.getElem_of_mem hx
   have h1 := kid_lt' (List.getElem?_eq_getElem hk)
   omega) (hf.kid hx))
 rw [← tree_eqH] at hT
 have hv := visU_eq u ps
 rw [hue] at hE ⊢
 generalize treeE true u = c at *
 cases hlk : lookM ps (idv u.id) with
 | none =>
   rw [hlk] at hv
   simp only at hv
   rw [hv]
   generalize visL u.kids ps = M at *
   refine PCB.of_va (T := tbm) eqs_ok tbm_ok rfl mixed Tryd.func54 rfl rfl rfl (Nat.le_of_ble_eq_true rfl) rfl ?_; intro Γ C WK LP fin h0 hk0 hW hC hB hR hLP hfin
   (try (conv => whnf)); (repeat ((first | refine qT ?_ | refine qF ?_ | refine qO ?_ | (with_reducible intro z hz); (first | (replace hz := hz (by omega); subst hz) | subst hz)); (try (conv => whnf))))
   refine LookK.mk (.str ⟨#[]⟩) false (by rw [show IV.agg [.int .i64 u.id.x, .int .i64 u.id.y, .int .i64 u.id.z] = idv u.id from rfl, hlk]; rfl) (by rw [show IV.agg [.int .i64 u.id.x, .int .i64 u.id.y, .int .i64 u.id.z] = idv u.id from rfl, hlk]; rfl) ?_
   (try (conv => whnf)); (repeat ((first | refine qT ?_ | refine qF ?_ | refine qO ?_ | (with_reducible intro z hz); (first | (replace hz := hz (by omega); subst hz) | subst hz) | (refine CallV.mk _ (hC _ _ _ (PCw.of hE)) (fun js hjs => ?_); subst hjs)); (try (conv => whnf))))
   refine CallB.mk ([.imm (.str c)]) (vck M) (hB _ _ _ _ _ (hT)) ?_
   (try (conv => whnf)); (repeat ((first | refine qT ?_ | refine qF ?_ | refine qO ?_ | (with_reducible intro z hz); (first | (replace hz := hz (by omega); subst hz) | subst hz)); (try (conv => whnf))))
   exact hfin _ (qSL 3 rfl rfl)
 | some v =>
   rw [hlk] at hv
   simp only at hv
   rw [hv]
   generalize visL u.kids ps = M at *
   refine PCB.of_va (T := tbm) eqs_ok tbm_ok rfl mixed Tryd.func54 rfl rfl rfl (Nat.le_of_ble_eq_true rfl) rfl ?_; intro Γ C WK LP fin h0 hk0 hW hC hB hR hLP hfin
   (try (conv => whnf)); (repeat ((first | refine qT ?_ | refine qF ?_ | refine qO ?_ | (with_reducible intro z hz); (first | (replace hz := hz (by omega); subst hz) | subst hz)); (try (conv => whnf))))
   refine LookK.mk v true (by rw [show IV.agg [.int .i64 u.id.x, .int .i64 u.id.y, .int .i64 u.id.z] = idv u.id from rfl, hlk]; rfl) (by rw [show IV.agg [.int .i64 u.id.x, .int .i64 u.id.y, .int .i64 u.id.z] = idv u.id from rfl, hlk]; rfl) ?_
   (try (conv => whnf)); (repeat ((first | refine qT ?_ | refine qF ?_ | refine qO ?_ | (with_reducible intro z hz); (first | (replace hz := hz (by omega); subst hz) | subst hz) | (refine CallV.mk _ (hC _ _ _ (PCw.of hE)) (fun js hjs => ?_); subst hjs)); (try (conv => whnf))))
   refine CallB.mk ([.imm (.str c)]) (vck M) (hB _ _ _ _ _ (hT)) ?_
   (try (conv => whnf)); (repeat ((first | refine qT ?_ | refine qF ?_ | refine qO ?_ | (with_reducible intro z hz); (first | (replace hz := hz (by omega); subst hz) | subst hz)); (try (conv => whnf))))
   exact hfin _ (qSL 3 rfl rfl)
theorem fullSums_pcb (u : Ut) (hf : FitD u) : PCB Tryd.prog envH 36 [.imm (uv u)] [.dead 1] [.row 0 2] [.map kkI 2 (visU u [])] := by
 have hV := visit_pcb _ u [] (Nat.le_refl _) hf
 have hue := uv_eq u
 rw [hue] at hV ⊢
 generalize visU u [] = M at *
 generalize treeE true u = c at *
 refine PCB.of_va (T := tbm) eqs_ok tbm_ok rfl mixed Tryd.func36 rfl rfl rfl (Nat.le_of_ble_eq_true rfl) rfl ?_; intro Γ C WK LP fin h0 hk0 hW hC hB hR hLP hfin
 (try (conv => whnf)); (repeat ((first | refine qT ?_ | refine qF ?_ | refine qO ?_ | (with_reducible intro z hz); (first | (replace hz := hz (by omega); subst hz) | subst hz)); (try (conv => whnf))))
 refine CallB.mk ([.imm (.str c)]) (vck M) (hB _ _ _ _ _ (hV)) ?_
 (try (conv => whnf)); (repeat ((first | refine qT ?_ | refine qF ?_ | refine qO ?_ | (with_reducible intro z hz); (first | (replace hz := hz (by omega); subst hz) | subst hz)); (try (conv => whnf))))
 exact hfin _ ((WeakA.adopt 0 2 2 (by decide) rfl rfl (by rw [h0]; exact Nat.le_of_ble_eq_true rfl) (by first | omega | (intro _; rw [hk0 _ _ rfl]; exact Nat.le_of_ble_eq_true rfl)) (by repeat (first | exact trivial | refine And.intro (mvL_imms _ _ _ _ _) ?_ | refine And.intro rfl ?_))).trans (qSL 1 rfl rfl))
end Go.Proofs.YtopohipcpomecaaDoor.Pd
