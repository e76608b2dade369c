/-
  The program's hashes of trees: treeSum with a plain function, Content, Full.
-/
import Derived.Test.YtopohipcpomecaaDoorWDu
namespace Go.Proofs.YtopohipcpomecaaDoor.Pd
open Go Go.Pv Go.RowKit Go.Proofs.YtopohipcpomecaaDoor.Pu Go.Proofs.YtopohipcpomecaaDoor.Pb
set_option linter.unusedSimpArgs false
open Lab Lcs Go.Proofs.YtopohipcpomecaaDoor
set_option maxRecDepth 10000
set_option maxHeartbeats 16000000
theorem tqm_m : tdOf Tryd.prog 59 = some ⟨false, 1, [.nm], .map 26 9⟩ := by kernel_rfl
theorem tqm_f : tdOf Tryd.prog 32 = some ⟨false, 1, [.nf], .fn⟩ := by kernel_rfl
def tdm : List (TypeId × TD) := (59, ⟨false, 1, [.nm], .map 26 9⟩) :: (32, ⟨false, 1, [.nf], .fn⟩) :: tdb
theorem tdm_ok : AllTd Tryd.prog tdm := ⟨tqm_m, tqm_f, tdb_ok⟩
def tbm0 (hk : Nat → Bool) (nw : FuncId → Nat) : Tb := ⟨Pv.look tdm, eqs, glD, fun _ => [], hk, nw⟩
def tbm : Tb := tbm0 (fun _ => false) fun _ => 0
theorem tbm_ok {hk : Nat → Bool} {nw : FuncId → Nat} : ∀ t d, (tbm0 hk nw).td t = some d → tdOf Tryd.prog t = some d := Pv.look_ok tdm_ok
theorem kids_bytes (m : Bool) (s : Str) {l : List Ut} {k : Nat} {x : Ut} (h : l[k]? = some x) : (kidsE m s (l.take k)).data.toList ++ (treeE m x).data.toList = (kidsE m s (l.take (k + 1))).data.toList := by
 rw [kids_take m s h]
 simp [ByteArray.data_append]
theorem sum_pc' (s : Str) (hs : s.size ≤ 100000000) : PC Tryd.prog envH 9 [.str s] [.str (hashS s)] := sum_pc s hs
theorem treeSum_pc (m : Bool) (s : Str) (kids : List Ut) (f : FuncId) (h0s : 0 < s.size) (hs : s.size ≤ 50000000) (hk : kids.length ≤ 1000000) (hf : ∀ x ∈ kids, PC Tryd.prog envH f [uv x] [.str (treeE m x)]) : PC Tryd.prog envH 28 [.str s, .sl 8 (kids.map uv), .fn f] [.str (hashS (kidsE m s kids))] := by
 have hml : (kids.map uv).length = kids.length := List.length_map _
 have hWr := write0_pcb [] s (by unfold most; simp only [List.length_nil]; omega)
 have hks := kids_len m s
 refine PC.of_va (T := (tbm0 (fun r => Nat.beq r 2) fun _ => 0)) eqs_ok tbm_ok rfl mixed Tryd.func28 rfl rfl (Nat.le_of_ble_eq_true rfl) ?_; intro Γ C WK LP fin h0 hW hC hB hR hLP hfin
 (try (conv => whnf)); (repeat ((first | refine qT ?_ | refine qF ?_ | refine qO ?_ | (with_reducible intro z hz); (first | (replace hz := hz (by omega); subst hz) | subst hz)); (try (conv => whnf))))
 refine hW _ _ _ ((WeakA.nilBox 0 1 5 1 rfl rfl).trans (WeakA.row 1 (bytesV []) rfl (by rfl))) ?_
 (try (conv => whnf)); (repeat ((first | refine qT ?_ | refine qF ?_ | refine qO ?_ | (with_reducible intro z hz); (first | (replace hz := hz (by omega); subst hz) | subst hz)); (try (conv => whnf))))
 refine Imms.mk (bytesI []) rfl ?_
 (try (conv => whnf)); (repeat ((first | refine qT ?_ | refine qF ?_ | refine qO ?_ | (with_reducible intro z hz); (first | (replace hz := hz (by omega); subst hz) | subst hz)); (try (conv => whnf))))
 refine CallB.mk ([.imm (.int .i64 (s.size : Nat)), .any]) (cbl ([] ++ s.data.toList) 2) (hB _ _ _ _ _ (hWr)) ?_
 (try (conv => whnf)); (repeat ((first | refine qT ?_ | refine qF ?_ | refine qO ?_ | (with_reducible intro z hz); (first | (replace hz := hz (by omega); subst hz) | subst hz)); (try (conv => whnf))))
 refine hLP _ _ _ Nat (fun k => ⟨[(2, .imm (.fn f)), (7, .ptr 0 1 0), (12, .imm (.sl 8 (kids.map uv))), (13, .imm (.int .i64 (kids.length : Nat))), (14, .imm (.int .i64 (k : Nat)))], bld (.ptr 0 1 0) (kidsE m s (kids.take k)).data.toList 1⟩) (fun k => k ≤ kids.length) (fun k => kids.length - k) 0 (Nat.zero_le _) ((WeakA.row 1 (bytesV (kidsE m s (kids.take 0)).data.toList) rfl (by simp [kidsE])).trans ((WeakA.renew 1 1 rfl (by first | omega | (intro _; rw [hk0 _ _ rfl]; exact Nat.le_of_ble_eq_true rfl)) (by repeat (first | exact trivial | refine And.intro (rgL_imms _ _ _ _) ?_ | refine And.intro rfl ?_))).trans (qSL 2 rfl rfl))) ?_
 intro k hkk
 have hz := hks (kids.take k)
 rw [List.length_take] at hz
 have hho := Nat.lt_or_ge k kids.length
 cases hho with
 | inl hlt =>
   refine (?_ : ∀ Q : Exit → AS → Prop, vcS _ _ _ _ _ _ _ (loopQA _ _ _ _ _ _ Q)) _; intro Q
   obtain ⟨x, hx⟩ : ∃ x, kids[k]? = some x := ⟨kids[k], List.getElem?_eq_getElem hlt⟩
   have hux := uv_eq x
   have hI := hf x (List.mem_of_getElem? hx)
   have hkb := kids_bytes m s hx
   have hzt := tree_len m x
   rw [hux] at hI
   generalize kidsE m s (kids.take k) = R at *
   have hW1 := write1_pcb R.data.toList (treeE m x) (by unfold most; rw [show R.data.toList.length = R.size from rfl]; omega)
   generalize treeE m x = c at *
   (try (conv => whnf)); (repeat ((first | refine qT ?_ | refine qF ?_ | refine qO ?_ | (with_reducible intro z hz); (first | (replace hz := hz (by omega); subst hz) | subst hz)); (try (conv => whnf))))
   refine Idx.mk k (uv x) _ rfl (by simp [hx]) (by rw [hux]; try rfl) ?_
   (try (conv => whnf)); (repeat ((first | refine qT ?_ | refine qF ?_ | refine qO ?_ | (with_reducible intro z hz); (first | (replace hz := hz (by omega); subst hz) | subst hz) | (refine CallV.mk _ (hC _ _ _ (PCw.of hI)) (fun js hjs => ?_); subst hjs)); (try (conv => whnf))))
   refine Imms.mk (bytesI R.data.toList) rfl ?_
   (try (conv => whnf)); (repeat ((first | refine qT ?_ | refine qF ?_ | refine qO ?_ | (with_reducible intro z hz); (first | (replace hz := hz (by omega); subst hz) | subst hz)); (try (conv => whnf))))
   refine CallB.mk ([.imm (.int .i64 (c.size : Nat)), .any]) (cbl (R.data.toList ++ c.data.toList) 2) (hB _ _ _ _ _ (hW1)) ?_
   (try (conv => whnf)); (repeat ((first | refine qT ?_ | refine qF ?_ | refine qO ?_ | (with_reducible intro z hz); (first | (replace hz := hz (by omega); subst hz) | subst hz)); (try (conv => whnf))))
   exact ⟨k + 1, by omega, by dsimp only; omega, ((WeakA.row 1 (bytesV (kidsE m s (kids.take (k + 1))).data.toList) rfl (by rw [← hkb])).trans ((WeakA.renew 1 1 rfl (by first | omega | (intro _; rw [hk0 _ _ rfl]; exact Nat.le_of_ble_eq_true rfl)) (by repeat (first | exact trivial | refine And.intro (rgL_imms _ _ _ _) ?_ | refine And.intro rfl ?_))).trans (qSL 2 rfl rfl)))⟩
 | inr hge =>
   obtain rfl : k = kids.length := by omega
   rw [List.take_length]
   have hz2 := hks kids
   have hS := string_pcb (kidsE m s kids).data.toList (by rw [show (kidsE m s kids).data.toList.length = (kidsE m s kids).size from rfl]; omega)
   rw [bytes_str] at hS
   have hX := sum_pc' (kidsE m s kids) (by omega)
   (try (conv => whnf)); (repeat ((first | refine qT ?_ | refine qF ?_ | refine qO ?_ | (with_reducible intro z hz); (first | (replace hz := hz (by omega); subst hz) | subst hz)); (try (conv => whnf))))
   refine Imms.mk (bytesI (kidsE m s kids).data.toList) rfl ?_
   (try (conv => whnf)); (repeat ((first | refine qT ?_ | refine qF ?_ | refine qO ?_ | (with_reducible intro z hz); (first | (replace hz := hz (by omega); subst hz) | subst hz)); (try (conv => whnf))))
   refine CallB.mk ([.imm (.str (kidsE m s kids))]) ([.box 1 [.ptr 0 1 0, .any] (some 74), .dead 2]) (hB _ _ _ _ _ (hS)) ?_
   (try (conv => whnf)); (repeat ((first | refine qT ?_ | refine qF ?_ | refine qO ?_ | (with_reducible intro z hz); (first | (replace hz := hz (by omega); subst hz) | subst hz) | (refine CallV.mk _ (hC _ _ _ (PCw.of hX)) (fun js hjs => ?_); subst hjs)); (try (conv => whnf))))
   exact hfin _ (ILes.refl _)
theorem alone_pos (m : Bool) (u : Ut) : 0 < (aloneE m u).size := by
 unfold aloneE
 simp only [ByteArray.size_append, sz1]
 omega
theorem tree_eqH (m : Bool) (u : Ut) : treeE m u = hashS (kidsE m (aloneE m u) u.kids) := tree_eq m u
theorem content_pc (N : Nat) : ∀ u : Ut, u.count ≤ N → FitD u → PC Tryd.prog envH 12 [uv u] [.str (treeE false u)] := by
 induction N with
 | zero => intro u h; have := count_pos u; omega
 | succ N ih =>
 intro u hN hf
 have hue := uv_eq u
 have hs := hf.self
 have hE := encode_pc u hs
 have hT := treeSum_pc false (aloneE false u) u.kids 12 (alone_pos _ _) (by have := alone_len (m := false) hs; omega) hs.kids (fun x hx => ih x (by
   obtain ⟨k, hk, rfl⟩ := List.getElem_of_mem hx
   have h1 := kid_lt' (List.getElem?_eq_getElem hk)
   omega) (hf.kid hx))
 rw [hue, tree_eqH]
 rw [hue] at hE
 refine PC.of_va (T := tbm) eqs_ok tbm_ok rfl mixed Tryd.func12 rfl rfl (Nat.le_of_ble_eq_true rfl) ?_; intro Γ C WK LP fin h0 hW hC hB hR hLP hfin
 (try (conv => whnf)); (repeat ((first | refine qT ?_ | refine qF ?_ | refine qO ?_ | (with_reducible intro z hz); (first | (replace hz := hz (by omega); subst hz) | subst hz) | (refine CallV.mk _ (hC _ _ _ (PCw.of hE)) (fun js hjs => ?_); subst hjs) | (refine CallV.mk _ (hC _ _ _ (PCw.of hT)) (fun js hjs => ?_); subst hjs)); (try (conv => whnf))))
 exact hfin _ (ILes.refl _)
theorem full_pc (N : Nat) : ∀ u : Ut, u.count ≤ N → FitD u → PC Tryd.prog envH 14 [uv u] [.str (treeE true u)] := by
 induction N with
 | zero => intro u h; have := count_pos u; omega
 | succ N ih =>
 intro u hN hf
 have hue := uv_eq u
 have hs := hf.self
 have hE := encodeM_pc u hs
 have hT := treeSum_pc true (aloneE true u) u.kids 14 (alone_pos _ _) (by have := alone_len (m := true) hs; omega) hs.kids (fun x hx => ih x (by
   obtain ⟨k, hk, rfl⟩ := List.getElem_of_mem hx
   have h1 := kid_lt' (List.getElem?_eq_getElem hk)
   omega) (hf.kid hx))
 rw [hue, tree_eqH]
 rw [hue] at hE
 refine PC.of_va (T := tbm) eqs_ok tbm_ok rfl mixed Tryd.func14 rfl rfl (Nat.le_of_ble_eq_true rfl) ?_; intro Γ C WK LP fin h0 hW hC hB hR hLP hfin
 (try (conv => whnf)); (repeat ((first | refine qT ?_ | refine qF ?_ | refine qO ?_ | (with_reducible intro z hz); (first | (replace hz := hz (by omega); subst hz) | subst hz) | (refine CallV.mk _ (hC _ _ _ (PCw.of hE)) (fun js hjs => ?_); subst hjs) | (refine CallV.mk _ (hC _ _ _ (PCw.of hT)) (fun js hjs => ?_); subst hjs)); (try (conv => whnf))))
 exact hfin _ (ILes.refl _)
end Go.Proofs.YtopohipcpomecaaDoor.Pd
