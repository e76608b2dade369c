/-
  Encodings of strings and of three numbers: by the program and by the reference.
-/
import Derived.Test.YtopohipcpomecaaDoorWDf
namespace Go.Proofs.YtopohipcpomecaaDoor.Pd
open Go Go.Pv Go.RowKit Go.Proofs.YtopohipcpomecaaDoor.Pu Go.Proofs.YtopohipcpomecaaDoor.Pb
set_option linter.unusedSimpArgs false
open Lab Lcs Go.Proofs.YtopohipcpomecaaDoor
set_option maxRecDepth 10000
set_option maxHeartbeats 16000000
def encS (s : Str) : Str := numS ((s.size : Nat) : Int) ++ ⟨#[58]⟩ ++ s
def thrS (a b c : Int) : Str := numS a ++ ⟨#[46]⟩ ++ numS b ++ ⟨#[46]⟩ ++ numS c
theorem sz1 (c : UInt8) : (⟨#[c]⟩ : Str).size = 1 := rfl
theorem encS_len {s : Str} (h : s.size ≤ 900000000) : (encS s).size ≤ s.size + 22 := by
 have := num_len (z := ((s.size : Nat) : Int)) (by omega) (by omega)
 unfold encS
 rw [ByteArray.size_append, ByteArray.size_append, sz1]
 omega
theorem piece_pc (s : Str) (h : s.size ≤ 900000000) : PC Tryd.prog envH 33 [.str s] [.str (encS s)] := by
 have hD := rdig_pc ((s.size : Nat) : Int) (by omega) (by omega)
 have hn := num_len (z := ((s.size : Nat) : Int)) (by omega) (by omega)
 have h1 := sz1 58
 have h2 : (numS ((s.size : Nat) : Int) ++ (⟨#[58]⟩ : Str)).size ≤ 22 := by rw [ByteArray.size_append, sz1]; omega
 refine PC.of_va (T := tbd) eqs_ok tbd_ok rfl mixed Tryd.func33 rfl rfl (Nat.le_of_ble_eq_true rfl) ?_; intro Γ C WK LP fin h0 hW hC hB hR hLP hfin
 (try (conv => whnf)); (repeat ((first | refine qT ?_ | refine qF ?_ | refine qO ?_ | (with_reducible intro z hz); (first | (replace hz := hz (by omega); subst hz) | subst hz) | (refine CallV.mk _ (hC _ _ _ (PCw.of hD)) (fun js hjs => ?_); subst hjs)); (try (conv => whnf))))
 exact hfin _ (ILes.refl _)
theorem encStr_pc (s : Str) (h : s.size ≤ 900000000) : PC Tryd.prog envH 69 [.str s] [.str (encS s)] := by
 have hD := itoa_pc ((s.size : Nat) : Int) (by omega) (by omega)
 have hn := num_len (z := ((s.size : Nat) : Int)) (by omega) (by omega)
 have h1 := sz1 58
 have h2 : (numS ((s.size : Nat) : Int) ++ (⟨#[58]⟩ : Str)).size ≤ 22 := by rw [ByteArray.size_append, sz1]; omega
 refine PC.of_va (T := tbd) eqs_ok tbd_ok rfl mixed Tryd.func69 rfl rfl (Nat.le_of_ble_eq_true rfl) ?_; intro Γ C WK LP fin h0 hW hC hB hR hLP hfin
 (try (conv => whnf)); (repeat ((first | refine qT ?_ | refine qF ?_ | refine qO ?_ | (with_reducible intro z hz); (first | (replace hz := hz (by omega); subst hz) | subst hz) | (refine CallV.mk _ (hC _ _ _ (PCw.of hD)) (fun js hjs => ?_); subst hjs)); (try (conv => whnf))))
 exact hfin _ (ILes.refl _)
def inN (z : Int) : Prop := -9223372036854775808 ≤ z ∧ z ≤ 9223372036854775807
theorem thrS_len {a b c : Int} (ha : inN a) (hb : inN b) (hc : inN c) : (thrS a b c).size ≤ 65 := by
 have h1 := num_len ha.1 ha.2
 have h2 := num_len hb.1 hb.2
 have h3 := num_len hc.1 hc.2
 unfold thrS
 simp only [ByteArray.size_append, sz1]
 omega
theorem three_pc (a b c : Int) (ha : inN a) (hb : inN b) (hc : inN c) : PC Tryd.prog envH 31 [.int .i64 a, .int .i64 b, .int .i64 c] [.str (thrS a b c)] := by
 have hA := rdig_pc a ha.1 ha.2
 have hB2 := rdig_pc b hb.1 hb.2
 have hC2 := rdig_pc c hc.1 hc.2
 have k1 := num_len ha.1 ha.2
 have k2 := num_len hb.1 hb.2
 have k3 := num_len hc.1 hc.2
 have h1 := sz1 46
 have h2 : (numS a ++ (⟨#[46]⟩ : Str)).size ≤ 22 := by rw [ByteArray.size_append, sz1]; omega
 have h3 : (numS a ++ (⟨#[46]⟩ : Str) ++ numS b).size ≤ 43 := by rw [ByteArray.size_append]; omega
 have h4 : (numS a ++ (⟨#[46]⟩ : Str) ++ numS b ++ (⟨#[46]⟩ : Str)).size ≤ 44 := by rw [ByteArray.size_append, sz1]; omega
 refine PC.of_va (T := tbd) eqs_ok tbd_ok rfl mixed Tryd.func31 rfl rfl (Nat.le_of_ble_eq_true rfl) ?_; intro Γ C WK LP fin h0 hW hC hB hR hLP hfin
 (try (conv => whnf)); (repeat ((first | refine qT ?_ | refine qF ?_ | refine qO ?_); (try (conv => whnf))))
 refine CallV.mk _ (hC _ _ _ (PCw.of (hA))) (fun js hjs => ?_); subst hjs
 (try (conv => whnf)); (repeat ((first | refine qT ?_ | refine qF ?_ | refine qO ?_ | (with_reducible intro z hz); (first | (replace hz := hz (by omega); subst hz) | subst hz) | (refine CallV.mk _ (hC _ _ _ (PCw.of hB2)) (fun js hjs => ?_); subst hjs) | (refine CallV.mk _ (hC _ _ _ (PCw.of hC2)) (fun js hjs => ?_); subst hjs)); (try (conv => whnf))))
 exact hfin _ (ILes.refl _)
theorem encNum_pc (a b c : Int) (ha : inN a) (hb : inN b) (hc : inN c) : PC Tryd.prog envH 52 [.int .i64 a, .int .i64 b, .int .i64 c] [.str (thrS a b c)] := by
 have hA := itoa_pc a ha.1 ha.2
 have hB2 := itoa_pc b hb.1 hb.2
 have hC2 := itoa_pc c hc.1 hc.2
 have k1 := num_len ha.1 ha.2
 have k2 := num_len hb.1 hb.2
 have k3 := num_len hc.1 hc.2
 have h1 := sz1 46
 have h2 : (numS a ++ (⟨#[46]⟩ : Str)).size ≤ 22 := by rw [ByteArray.size_append, sz1]; omega
 have h3 : (numS a ++ (⟨#[46]⟩ : Str) ++ numS b).size ≤ 43 := by rw [ByteArray.size_append]; omega
 have h4 : (numS a ++ (⟨#[46]⟩ : Str) ++ numS b ++ (⟨#[46]⟩ : Str)).size ≤ 44 := by rw [ByteArray.size_append, sz1]; omega
 refine PC.of_va (T := tbd) eqs_ok tbd_ok rfl mixed Tryd.func52 rfl rfl (Nat.le_of_ble_eq_true rfl) ?_; intro Γ C WK LP fin h0 hW hC hB hR hLP hfin
 (try (conv => whnf)); (repeat ((first | refine qT ?_ | refine qF ?_ | refine qO ?_); (try (conv => whnf))))
 refine CallV.mk _ (hC _ _ _ (PCw.of (hA))) (fun js hjs => ?_); subst hjs
 (try (conv => whnf)); (repeat ((first | refine qT ?_ | refine qF ?_ | refine qO ?_ | (with_reducible intro z hz); (first | (replace hz := hz (by omega); subst hz) | subst hz) | (refine CallV.mk _ (hC _ _ _ (PCw.of hB2)) (fun js hjs => ?_); subst hjs) | (refine CallV.mk _ (hC _ _ _ (PCw.of hC2)) (fun js hjs => ?_); subst hjs)); (try (conv => whnf))))
 exact hfin _ (ILes.refl _)
end Go.Proofs.YtopohipcpomecaaDoor.Pd
