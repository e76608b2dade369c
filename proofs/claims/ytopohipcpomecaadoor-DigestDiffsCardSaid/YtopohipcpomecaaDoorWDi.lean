/-
  The encoding of a unit alone, by the reference.
-/
import Derived.Test.YtopohipcpomecaaDoorWDh
namespace Go.Proofs.YtopohipcpomecaaDoor.Pd
open Go Go.Pv Go.RowKit Go.Proofs.YtopohipcpomecaaDoor.Pu Go.Proofs.YtopohipcpomecaaDoor.Pb
set_option linter.unusedSimpArgs false
open Lab Lcs Go.Proofs.YtopohipcpomecaaDoor
set_option maxRecDepth 10000
set_option maxHeartbeats 16000000
theorem sz0 : (⟨#[]⟩ : Str).size = 0 := rfl
def rowF (m : Bool) (l : List Wd) : Str := rowE m l (((l.map wdv).length : Nat) : Int)
def idE (m : Bool) (u : Ut) : Str := bif m then thrS u.id.x u.id.y u.id.z ++ ⟨#[32]⟩ else ⟨#[]⟩
def aloneE (m : Bool) (u : Ut) : Str := idE m u ++ numS u.kind ++ ⟨#[32]⟩ ++ encS u.label ++ ⟨#[10]⟩ ++ rowF m u.head ++ ⟨#[10]⟩ ++ rowF m u.words ++ ⟨#[10]⟩
structure OkD (u : Ut) : Prop where
 id : inN u.id.x ∧ inN u.id.y ∧ inN u.id.z
 kind : inN u.kind
 label : u.label.size ≤ 10000000
 head : wtE u.head ≤ 10000000
 words : wtE u.words ≤ 10000000
 okh : OkW u.head
 okw : OkW u.words
 hl : u.head.length ≤ 1000000
 wl : u.words.length ≤ 1000000
 kids : u.kids.length ≤ 1000000
theorem rowF_len {m : Bool} {l : List Wd} (hb : wtE l ≤ 10000000) (hl : OkW l) (hn : l.length ≤ 1000000) : (rowF m l).size ≤ 10000021 := by
 have hml : (l.map wdv).length = l.length := List.length_map _
 have h := row_len (m := m) (n := (((l.map wdv).length : Nat) : Int)) (by omega : wtE l ≤ 100000000) hl ⟨by omega, by omega⟩ l.length (Nat.le_refl _)
 rw [List.take_length] at h
 unfold rowF
 omega
theorem alone_len {m : Bool} {u : Ut} (h : OkD u) : (aloneE m u).size ≤ 40000000 := by
 have h1 := thrS_len h.id.1 h.id.2.1 h.id.2.2
 have h2 := num_len h.kind.1 h.kind.2
 have h3 := encS_len (s := u.label) (by have := h.label; omega)
 have h4 := rowF_len (m := m) h.head h.okh h.hl
 have h5 := rowF_len (m := m) h.words h.okw h.wl
 have h6 := h.label
 have h7 : (idE m u).size ≤ 66 := by
   unfold idE
   cases m
   · rw [cond_false]; decide
   · rw [cond_true, ByteArray.size_append, sz1]; omega
 unfold aloneE
 simp only [ByteArray.size_append, sz1]
 omega
theorem ralone_pc (m : Bool) (u : Ut) (h : OkD u) : PC Tryd.prog envH 17 [uv u, .bool m] [.str (aloneE m u)] := by
 have hue := uv_eq u
 have e1 := thrS_len h.id.1 h.id.2.1 h.id.2.2
 have e2 := num_len h.kind.1 h.kind.2
 have e6 := h.label
 have e3 := encS_len (s := u.label) (by omega)
 have e4 := rowF_len (m := m) h.head h.okh h.hl
 have e5 := rowF_len (m := m) h.words h.okw h.wl
 have hT := three_pc u.id.x u.id.y u.id.z h.id.1 h.id.2.1 h.id.2.2
 have hK := rdig_pc u.kind h.kind.1 h.kind.2
 have hP := piece_pc u.label (by omega)
 have hR1 := rrow_pc m u.head (by have := h.hl; omega) (by have := h.head; omega) h.okh
 have hR2 := rrow_pc m u.words (by have := h.wl; omega) (by have := h.words; omega) h.okw
 have z1 := sz1 32
 have z2 := sz1 10
 change PC _ _ _ _ [.str (rowF m u.head)] at hR1
 change PC _ _ _ _ [.str (rowF m u.words)] at hR2
 unfold aloneE idE
 cases m with
 | false =>
   rw [hue, cond_false]
   refine PC.of_va (T := tbw) eqs_ok tbw_ok rfl mixed Tryd.func17 rfl rfl (Nat.le_of_ble_eq_true rfl) ?_; intro Γ C WK LP fin h0 hW hC hB hR hLP hfin
   (try (conv => whnf)); (repeat ((first | refine qT ?_ | refine qF ?_ | refine qO ?_ | (refine Owe.mk (by simp only [ByteArray.size_append, sz1, sz0]; unfold most; omega) ?_) | (with_reducible intro z hz); (first | (replace hz := hz (by omega); subst hz) | subst hz) | (refine CallV.mk _ (hC _ _ _ (PCw.of hK)) (fun js hjs => ?_); subst hjs) | (refine CallV.mk _ (hC _ _ _ (PCw.of hP)) (fun js hjs => ?_); subst hjs) | (refine CallV.mk _ (hC _ _ _ (PCw.of hR1)) (fun js hjs => ?_); subst hjs) | (refine CallV.mk _ (hC _ _ _ (PCw.of hR2)) (fun js hjs => ?_); subst hjs)); (try (conv => whnf))))
   exact hfin _ (ILes.refl _)
 | true =>
   rw [hue, cond_true]
   refine PC.of_va (T := tbw) eqs_ok tbw_ok rfl mixed Tryd.func17 rfl rfl (Nat.le_of_ble_eq_true rfl) ?_; intro Γ C WK LP fin h0 hW hC hB hR hLP hfin
   (try (conv => whnf)); (repeat ((first | refine qT ?_ | refine qF ?_ | refine qO ?_ | (refine Owe.mk (by simp only [ByteArray.size_append, sz1, sz0]; unfold most; omega) ?_) | (with_reducible intro z hz); (first | (replace hz := hz (by omega); subst hz) | subst hz) | (refine CallV.mk _ (hC _ _ _ (PCw.of hT)) (fun js hjs => ?_); subst hjs) | (refine CallV.mk _ (hC _ _ _ (PCw.of hK)) (fun js hjs => ?_); subst hjs) | (refine CallV.mk _ (hC _ _ _ (PCw.of hP)) (fun js hjs => ?_); subst hjs) | (refine CallV.mk _ (hC _ _ _ (PCw.of hR1)) (fun js hjs => ?_); subst hjs) | (refine CallV.mk _ (hC _ _ _ (PCw.of hR2)) (fun js hjs => ?_); subst hjs)); (try (conv => whnf))))
   exact hfin _ (ILes.refl _)
end Go.Proofs.YtopohipcpomecaaDoor.Pd
