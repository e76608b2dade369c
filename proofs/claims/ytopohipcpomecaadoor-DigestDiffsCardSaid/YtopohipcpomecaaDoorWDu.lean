/-
  The program's encoding of words and of a unit alone.
-/
import Derived.Test.YtopohipcpomecaaDoorWDt
import Derived.Test.YtopohipcpomecaaDoorWDj
namespace Go.Proofs.YtopohipcpomecaaDoor.Pd
open Go Go.Pv Go.RowKit Go.Proofs.YtopohipcpomecaaDoor.Pu Go.Proofs.YtopohipcpomecaaDoor.Pb
set_option linter.unusedSimpArgs false
open Lab Lcs Go.Proofs.YtopohipcpomecaaDoor
set_option maxRecDepth 10000
set_option maxHeartbeats 16000000
def compE (m : Bool) (w : Wd) : Str := bif m then ⟨#[64]⟩ ++ thrS w.mark.x w.mark.y w.mark.z else ⟨#[]⟩
def fnE (m : Bool) : FuncId := bif m then 53 else 51
theorem comp_pc (m : Bool) (w : Wd) (h : inN w.mark.x ∧ inN w.mark.y ∧ inN w.mark.z) : PC Tryd.prog envH (fnE m) [wdv w] [.str (compE m w)] := by
 cases m with
 | false =>
   show PC Tryd.prog envH 51 _ _
   refine PC.of_va (T := tbb) eqs_ok tbb_ok rfl mixed Tryd.func51 rfl rfl (Nat.le_of_ble_eq_true rfl) ?_; intro Γ C WK LP fin h0 hW hC hB hR hLP hfin
   (try (conv => whnf)); (repeat ((first | refine qT ?_ | refine qF ?_ | refine qO ?_ | (with_reducible intro z hz); (first | (replace hz := hz (by omega); subst hz) | subst hz)); (try (conv => whnf))))
   exact hfin _ (ILes.refl _)
 | true =>
   show PC Tryd.prog envH 53 [.agg [.str w.text, .int .i64 w.mark.x, .int .i64 w.mark.y, .int .i64 w.mark.z]] [.str (⟨#[64]⟩ ++ thrS w.mark.x w.mark.y w.mark.z)]
   have hT := encNum_pc w.mark.x w.mark.y w.mark.z h.1 h.2.1 h.2.2
   have hl := thrS_len h.1 h.2.1 h.2.2
   have z1 := sz1 64
   refine PC.of_va (T := tbb) eqs_ok tbb_ok rfl mixed Tryd.func53 rfl rfl (Nat.le_of_ble_eq_true rfl) ?_; intro Γ C WK LP fin h0 hW hC hB hR hLP hfin
   (try (conv => whnf)); (repeat ((first | refine qT ?_ | refine qF ?_ | refine qO ?_ | (with_reducible intro z hz); (first | (replace hz := hz (by omega); subst hz) | subst hz) | (refine CallV.mk _ (hC _ _ _ (PCw.of hT)) (fun js hjs => ?_); subst hjs)); (try (conv => whnf))))
   exact hfin _ (ILes.refl _)
theorem stepW_bytes (m : Bool) (s : Str) (w : Wd) : s.data.toList ++ ((⟨#[32]⟩ : Str) ++ encS w.text ++ compE m w).data.toList = (stepW m s w).data.toList := by
 cases m <;> simp [stepW, compE, ByteArray.data_append]
theorem comp_len {m : Bool} {w : Wd} (h : inN w.mark.x ∧ inN w.mark.y ∧ inN w.mark.z) : (compE m w).size ≤ 66 := by
 have h2 := thrS_len h.1 h.2.1 h.2.2
 unfold compE
 cases m
 · rw [cond_false]; decide
 · rw [cond_true, ByteArray.size_append, sz1]; omega
theorem bytes_str (s : Str) : (⟨s.data.toList.toArray⟩ : Str) = s := by cases s; simp
theorem num_pos (z : Int) : 0 < (numS z).size := by
 have h : ∀ u, 0 < (Lib.decDigits u).length := fun u => by
   rw [Lib.decDigits]
   split <;> simp
 unfold numS Lib.itoa
 rw [size_str]
 split
 · simp
 · exact h _
theorem stepW_ge (m : Bool) (s : Str) (w : Wd) : s.size ≤ (stepW m s w).size := by
 unfold stepW
 cases m
 · rw [cond_false, ByteArray.size_append]; omega
 · rw [cond_true, ByteArray.size_append, ByteArray.size_append]; omega
theorem row_ge (m : Bool) (l : List Wd) (n : Int) : (numS n).size ≤ (rowE m l n).size := by
 unfold rowE
 have : ∀ (l : List Wd) (s : Str), s.size ≤ (l.foldl (stepW m) s).size := by
   intro l
   induction l with
   | nil => intro s; exact Nat.le_refl _
   | cons w l ih => intro s; exact Nat.le_trans (stepW_ge m s w) (ih _)
 exact this l _
theorem words_pc (m : Bool) (l : List Wd) (hl : l.length ≤ 1000000) (hb : wtE l ≤ 10000000) (hok : OkW l) : PC Tryd.prog envH 70 [.sl 4 (l.map wdv), .fn (fnE m)] [.str (rowF m l)] := by
 have hml : (l.map wdv).length = l.length := List.length_map _
 have hD := itoa_pc (((l.map wdv).length : Nat) : Int) (by omega) (by omega)
 have hn := num_len (z := (((l.map wdv).length : Nat) : Int)) (by omega) (by omega)
 have hW := write0_pcb [] (numS (((l.map wdv).length : Nat) : Int)) (by unfold most; simp only [List.length_nil]; omega)
 unfold rowF
 refine PC.of_va (T := tbb0 fun r => Nat.beq r 2) eqs_ok tbb_ok rfl mixed Tryd.func70 rfl rfl (Nat.le_of_ble_eq_true rfl) ?_; intro Γ C WK LP fin h0 hW2 hC hB hR hLP hfin
 (try (conv => whnf)); (repeat ((first | refine qT ?_ | refine qF ?_ | refine qO ?_ | (with_reducible intro z hz); (first | (replace hz := hz (by omega); subst hz) | subst hz)); (try (conv => whnf))))
 refine hW2 _ _ _ ((WeakA.nilBox 0 1 5 1 rfl rfl).trans (WeakA.row 1 (bytesV []) rfl (by rfl))) ?_
 (try (conv => whnf)); (repeat ((first | refine qT ?_ | refine qF ?_ | refine qO ?_ | (with_reducible intro z hz); (first | (replace hz := hz (by omega); subst hz) | subst hz) | (refine CallV.mk _ (hC _ _ _ (PCw.of hD)) (fun js hjs => ?_); subst hjs)); (try (conv => whnf))))
 refine Imms.mk (bytesI []) rfl ?_
 (try (conv => whnf)); (repeat ((first | refine qT ?_ | refine qF ?_ | refine qO ?_ | (with_reducible intro z hz); (first | (replace hz := hz (by omega); subst hz) | subst hz)); (try (conv => whnf))))
 refine CallB.mk ([.imm (.int .i64 ((numS (((l.map wdv).length : Nat) : Int)).size : Nat)), .any]) (cbl ([] ++ (numS (((l.map wdv).length : Nat) : Int)).data.toList) 2) (hB _ _ _ _ _ (hW)) ?_
 (try (conv => whnf)); (repeat ((first | refine qT ?_ | refine qF ?_ | refine qO ?_ | (with_reducible intro z hz); (first | (replace hz := hz (by omega); subst hz) | subst hz)); (try (conv => whnf))))
 refine hLP _ _ _ Nat (fun k => ⟨[(0, .imm (.sl 4 (l.map wdv))), (1, .imm (.fn (fnE m))), (5, .ptr 0 1 0), (12, .imm (.sl 4 (l.map wdv))), (13, .imm (.int .i64 ((l.map wdv).length : Nat))), (14, .imm (.int .i64 (k : Nat)))], bld (.ptr 0 1 0) (rowE m (l.take k) ((l.map wdv).length : Nat)).data.toList 1⟩) (fun k => k ≤ l.length) (fun k => l.length - k) 0 (Nat.zero_le _) ((WeakA.row 1 (bytesV (rowE m (l.take 0) ((l.map wdv).length : Nat)).data.toList) rfl (by simp [rowE])).trans ((WeakA.renew 1 1 rfl (by first | omega | (intro _; rw [hk0 _ _ rfl]; exact Nat.le_of_ble_eq_true rfl)) (by repeat (first | exact trivial | refine And.intro (rgL_imms _ _ _ _) ?_ | refine And.intro rfl ?_))).trans (qSL 2 rfl rfl))) ?_
 intro k hk
 have hrl := row_len (m := m) (show wtE l ≤ 100000000 by omega) hok (n := (((l.map wdv).length : Nat) : Int)) ⟨by omega, by omega⟩ k hk
 have hwl0 := wt_le l k
 have hho := Nat.lt_or_ge k l.length
 cases hho with
 | inl hlt =>
   refine (?_ : ∀ Q : Exit → AS → Prop, vcS _ _ _ _ _ _ _ (loopQA _ _ _ _ _ _ Q)) _; intro Q
   obtain ⟨w, hw⟩ : ∃ w, l[k]? = some w := ⟨l[k], List.getElem?_eq_getElem hlt⟩
   have hkw := hok w (List.mem_of_getElem? hw)
   have hwt := wt_take hw
   have hwl := wt_le l (k + 1)
   have hP := encStr_pc w.text (by omega)
   have hCm := comp_pc m w hkw
   have e1 := encS_len (s := w.text) (by omega)
   have e2 := comp_len (m := m) hkw
   have hrt := row_take (m := m) (n := (((l.map wdv).length : Nat) : Int)) hw
   generalize rowE m (l.take k) ((l.map wdv).length : Nat) = R at *
   have hsb := stepW_bytes m R w
   have z1 := sz1 32
   have z3 : ((⟨#[32]⟩ : Str) ++ encS w.text).size = 1 + (encS w.text).size := by rw [ByteArray.size_append, sz1]
   have z4 : ((⟨#[32]⟩ : Str) ++ encS w.text ++ compE m w).size = 1 + (encS w.text).size + (compE m w).size := by rw [ByteArray.size_append, z3]
   have hW1 := write1_pcb R.data.toList ((⟨#[32]⟩ : Str) ++ encS w.text ++ compE m w) (by unfold most; rw [show R.data.toList.length = R.size from rfl]; omega)
   generalize compE m w = c at *
   (try (conv => whnf)); (repeat ((first | refine qT ?_ | refine qF ?_ | refine qO ?_ | (with_reducible intro z hz); (first | (replace hz := hz (by omega); subst hz) | subst hz)); (try (conv => whnf))))
   refine Idx.mk k (wdv w) _ rfl (by simp [hw]) rfl ?_
   (try (conv => whnf)); (repeat ((first | refine qT ?_ | refine qF ?_ | refine qO ?_ | (with_reducible intro z hz); (first | (replace hz := hz (by omega); subst hz) | subst hz) | (refine CallV.mk _ (hC _ _ _ (PCw.of hP)) (fun js hjs => ?_); subst hjs) | (refine CallV.mk _ (hC _ _ _ (PCw.of hCm)) (fun js hjs => ?_); subst hjs)); (try (conv => whnf))))
   refine Imms.mk (bytesI R.data.toList) rfl ?_
   (try (conv => whnf)); (repeat ((first | refine qT ?_ | refine qF ?_ | refine qO ?_ | (with_reducible intro z hz); (first | (replace hz := hz (by omega); subst hz) | subst hz)); (try (conv => whnf))))
   refine CallB.mk ([.imm (.int .i64 (((⟨#[32]⟩ : Str) ++ encS w.text ++ c).size : Nat)), .any]) (cbl (R.data.toList ++ ((⟨#[32]⟩ : Str) ++ encS w.text ++ c).data.toList) 2) (hB _ _ _ _ _ (hW1)) ?_
   (try (conv => whnf)); (repeat ((first | refine qT ?_ | refine qF ?_ | refine qO ?_ | (with_reducible intro z hz); (first | (replace hz := hz (by omega); subst hz) | subst hz)); (try (conv => whnf))))
   exact ⟨k + 1, by omega, by dsimp only; omega, ((WeakA.row 1 (bytesV (rowE m (l.take (k + 1)) ((l.map wdv).length : Nat)).data.toList) rfl (by rw [hrt, ← hsb])).trans ((WeakA.renew 1 1 rfl (by first | omega | (intro _; rw [hk0 _ _ rfl]; exact Nat.le_of_ble_eq_true rfl)) (by repeat (first | exact trivial | refine And.intro (rgL_imms _ _ _ _) ?_ | refine And.intro rfl ?_))).trans (qSL 2 rfl rfl)))⟩
 | inr hge =>
   obtain rfl : k = l.length := by omega
   rw [List.take_length]
   have hne : 0 < (rowE m l ((l.map wdv).length : Nat)).data.toList.length := Nat.lt_of_lt_of_le (num_pos (((l.map wdv).length : Nat) : Int)) (row_ge m l _)
   have hS := string_pcb (rowE m l ((l.map wdv).length : Nat)).data.toList hne
   rw [bytes_str] at hS
   (try (conv => whnf)); (repeat ((first | refine qT ?_ | refine qF ?_ | refine qO ?_ | (with_reducible intro z hz); (first | (replace hz := hz (by omega); subst hz) | subst hz)); (try (conv => whnf))))
   refine Imms.mk (bytesI (rowE m l ((l.map wdv).length : Nat)).data.toList) rfl ?_
   (try (conv => whnf)); (repeat ((first | refine qT ?_ | refine qF ?_ | refine qO ?_ | (with_reducible intro z hz); (first | (replace hz := hz (by omega); subst hz) | subst hz)); (try (conv => whnf))))
   refine CallB.mk ([.imm (.str (rowE m l ((l.map wdv).length : Nat)))]) ([.box 1 [.ptr 0 1 0, .any] (some 74), .dead 2]) (hB _ _ _ _ _ (hS)) ?_
   (try (conv => whnf)); (repeat ((first | refine qT ?_ | refine qF ?_ | refine qO ?_ | (with_reducible intro z hz); (first | (replace hz := hz (by omega); subst hz) | subst hz)); (try (conv => whnf))))
   exact hfin _ (ILes.refl _)
def bodyE (m : Bool) (u : Ut) : Str := numS u.kind ++ ⟨#[32]⟩ ++ encS u.label ++ ⟨#[10]⟩ ++ rowF m u.head ++ ⟨#[10]⟩ ++ rowF m u.words ++ ⟨#[10]⟩
theorem bodyE_len {m : Bool} {u : Ut} (h : OkD u) : (bodyE m u).size ≤ 30000200 := by
 have h2 := num_len h.kind.1 h.kind.2
 have h6 := h.label
 have h3 := encS_len (s := u.label) (by omega)
 have h4 := rowF_len (m := m) h.head h.okh h.hl
 have h5 := rowF_len (m := m) h.words h.okw h.wl
 unfold bodyE
 simp only [ByteArray.size_append, sz1]
 omega
theorem unit_pc (m : Bool) (u : Ut) (h : OkD u) : PC Tryd.prog envH 50 [uv u, .fn (fnE m)] [.str (bodyE m u)] := by
 have hue := uv_eq u
 have e2 := num_len h.kind.1 h.kind.2
 have e6 := h.label
 have e3 := encS_len (s := u.label) (by omega)
 have e4 := rowF_len (m := m) h.head h.okh h.hl
 have e5 := rowF_len (m := m) h.words h.okw h.wl
 have hK := itoa_pc u.kind h.kind.1 h.kind.2
 have hP := encStr_pc u.label (by omega)
 have hR1 := words_pc m u.head h.hl h.head h.okh
 have hR2 := words_pc m u.words h.wl h.words h.okw
 have z1 := sz1 32
 have z2 := sz1 10
 unfold bodyE
 rw [hue]
 refine PC.of_va (T := tbb) eqs_ok tbb_ok rfl mixed Tryd.func50 rfl rfl (Nat.le_of_ble_eq_true rfl) ?_; intro Γ C WK LP fin h0 hW hC hB hR hLP hfin
 (try (conv => whnf)); (repeat ((first | refine qT ?_ | refine qF ?_ | refine qO ?_ | (refine Owe.mk (by simp only [ByteArray.size_append, sz1, sz0]; unfold most; omega) ?_) | (with_reducible intro z hz); (first | (replace hz := hz (by omega); subst hz) | subst hz) | (refine CallV.mk _ (hC _ _ _ (PCw.of hK)) (fun js hjs => ?_); subst hjs) | (refine CallV.mk _ (hC _ _ _ (PCw.of hP)) (fun js hjs => ?_); subst hjs) | (refine CallV.mk _ (hC _ _ _ (PCw.of hR1)) (fun js hjs => ?_); subst hjs) | (refine CallV.mk _ (hC _ _ _ (PCw.of hR2)) (fun js hjs => ?_); subst hjs)); (try (conv => whnf))))
 exact hfin _ (ILes.refl _)
theorem alone0 (u : Ut) : bodyE false u = aloneE false u := by
 apply ByteArray.ext
 simp [bodyE, aloneE, idE, ByteArray.data_append]
theorem alone1 (u : Ut) : thrS u.id.x u.id.y u.id.z ++ ⟨#[32]⟩ ++ bodyE true u = aloneE true u := by
 apply ByteArray.ext
 simp [bodyE, aloneE, idE, ByteArray.data_append]
theorem encode_pc (u : Ut) (h : OkD u) : PC Tryd.prog envH 29 [uv u] [.str (aloneE false u)] := by
 have hU := unit_pc false u h
 have hue := uv_eq u
 rw [hue, ← alone0]
 rw [hue] at hU
 refine PC.of_va (T := tbb) eqs_ok tbb_ok rfl mixed Tryd.func29 rfl rfl (Nat.le_of_ble_eq_true rfl) ?_; intro Γ C WK LP fin h0 hW hC hB hR hLP hfin
 (try (conv => whnf)); (repeat ((first | refine qT ?_ | refine qF ?_ | refine qO ?_ | (with_reducible intro z hz); (first | (replace hz := hz (by omega); subst hz) | subst hz) | (refine CallV.mk _ (hC _ _ _ (PCw.of hU)) (fun js hjs => ?_); subst hjs)); (try (conv => whnf))))
 exact hfin _ (ILes.refl _)
theorem encodeM_pc (u : Ut) (h : OkD u) : PC Tryd.prog envH 30 [uv u] [.str (aloneE true u)] := by
 have hU := unit_pc true u h
 have hl := bodyE_len (m := true) h
 have hT := encNum_pc u.id.x u.id.y u.id.z h.id.1 h.id.2.1 h.id.2.2
 have e1 := thrS_len h.id.1 h.id.2.1 h.id.2.2
 have z1 := sz1 32
 have hue := uv_eq u
 rw [hue, ← alone1]
 rw [hue] at hU
 refine PC.of_va (T := tbb) eqs_ok tbb_ok rfl mixed Tryd.func30 rfl rfl (Nat.le_of_ble_eq_true rfl) ?_; intro Γ C WK LP fin h0 hW hC hB hR hLP hfin
 (try (conv => whnf)); (repeat ((first | refine qT ?_ | refine qF ?_ | refine qO ?_ | (refine Owe.mk (by simp only [ByteArray.size_append, sz1, sz0]; unfold most; omega) ?_) | (with_reducible intro z hz); (first | (replace hz := hz (by omega); subst hz) | subst hz) | (refine CallV.mk _ (hC _ _ _ (PCw.of hT)) (fun js hjs => ?_); subst hjs) | (refine CallV.mk _ (hC _ _ _ (PCw.of hU)) (fun js hjs => ?_); subst hjs)); (try (conv => whnf))))
 exact hfin _ (ILes.refl _)
theorem self_pc (u : Ut) (h : OkD u) : PC Tryd.prog envH 16 [uv u] [.str (hashS (aloneE true u))] := by
 have hE := encodeM_pc u h
 have hS := sum_pc (aloneE true u) (by have := alone_len (m := true) h; omega)
 have hue := uv_eq u
 rw [hue] at hE ⊢
 refine PC.of_va (T := tbb) eqs_ok tbb_ok rfl mixed Tryd.func16 rfl rfl (Nat.le_of_ble_eq_true rfl) ?_; intro Γ C WK LP fin h0 hW hC hB hR hLP hfin
 (try (conv => whnf)); (repeat ((first | refine qT ?_ | refine qF ?_ | refine qO ?_ | (with_reducible intro z hz); (first | (replace hz := hz (by omega); subst hz) | subst hz) | (refine CallV.mk _ (hC _ _ _ (PCw.of hE)) (fun js hjs => ?_); subst hjs) | (refine CallV.mk _ (hC _ _ _ (PCw.of hS)) (fun js hjs => ?_); subst hjs)); (try (conv => whnf))))
 exact hfin _ (ILes.refl _)
end Go.Proofs.YtopohipcpomecaaDoor.Pd
