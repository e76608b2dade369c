/-
  The reference's decimal digits.
-/
import Derived.Test.YtopohipcpomecaaDoorWDe
namespace Go.Proofs.YtopohipcpomecaaDoor.Pd
open Go Go.Pv Go.RowKit Go.Proofs.YtopohipcpomecaaDoor.Pu Go.Proofs.YtopohipcpomecaaDoor.Pb
set_option linter.unusedSimpArgs false
open Lab Lcs Go.Proofs.YtopohipcpomecaaDoor
set_option maxRecDepth 10000
set_option maxHeartbeats 16000000
theorem byte_row {x : Int} {n : Nat} (h : n < 256) (hx : x = (n : Int)) : [PV.imm (.int .u8 x)] = [UInt8.ofNat n].map (fun b => PV.imm (.int .u8 (b.toNat : Int))) := by
 subst hx
 rw [List.map_cons, List.map_nil, UInt8.toNat_ofNat', Nat.mod_eq_of_lt (by simpa using h)]
theorem cat_str (a b : List UInt8) : (⟨a.toArray⟩ : Str) ++ ⟨b.toArray⟩ = ⟨(a ++ b).toArray⟩ := by
 apply ByteArray.ext
 rw [ByteArray.data_append]
 simp
theorem size_str (a : List UInt8) : (⟨a.toArray⟩ : Str).size = a.length := by show a.toArray.size = _; simp
theorem dec_le : ∀ (k n : Nat), n < 10 ^ (k + 1) → (Lib.decDigits n).length ≤ k + 1
 | 0, n, h => by rw [Lib.decDigits_one (by simpa using h)]; simp
 | k + 1, n, h => by
   by_cases h2 : n < 10
   · rw [Lib.decDigits_one h2]; simp
   · rw [Lib.decDigits, dif_neg h2, List.length_append, List.length_singleton]
     have := dec_le k (n / 10) (by rw [Nat.div_lt_iff_lt_mul (by decide), ← Nat.pow_succ]; exact h)
     omega
theorem rdig_pos (n : Nat) (hn : n ≤ 9223372036854775807) : PC Tryd.prog envH 32 [.int .i64 (n : Nat)] [.str ⟨(Lib.decDigits n).toArray⟩] := by
 induction n using Nat.strongRecOn with
 | _ n ih =>
 by_cases h : n < 10
 · rw [Lib.decDigits_one h]
   refine PC.of_va (T := tbd) eqs_ok tbd_ok rfl mixed Tryd.func32 rfl rfl (Nat.le_of_ble_eq_true rfl) ?_; intro Γ C WK LP fin h0 hW hC hB hR hLP hfin
   (try (conv => whnf)); (repeat ((first | refine qT ?_ | refine qF ?_ | refine qO ?_); (try (conv => whnf))))
   intro z hz; obtain rfl : z = ((48 + n : Nat) : Int) := by omega
   (try (conv => whnf)); (repeat ((first | refine qT ?_ | refine qF ?_ | refine qO ?_); (try (conv => whnf))))
   intro z hz; obtain rfl : z = ((48 + n : Nat) : Int) := hz.trans (wrap8 (Int.natCast_nonneg _) (by omega))
   (try (conv => whnf)); (repeat ((first | refine qT ?_ | refine qF ?_ | refine qO ?_ | (with_reducible intro z hz); (first | (replace hz := hz (by omega); subst hz) | subst hz)); (try (conv => whnf))))
   refine Bytes.mk [UInt8.ofNat (48 + n)] (byte_row (by omega) rfl) ?_
   (try (conv => whnf)); (repeat ((first | refine qT ?_ | refine qF ?_ | refine qO ?_ | (with_reducible intro z hz); (first | (replace hz := hz (by omega); subst hz) | subst hz)); (try (conv => whnf))))
   exact hfin _ (ILes.refl _)
 · have hI := ih (n / 10) (by omega) (by omega)
   rw [Lib.decDigits, dif_neg h]
   have hl := dec_le 19 (n / 10) (Nat.lt_of_le_of_lt (Nat.div_le_self _ _) (Nat.lt_of_le_of_lt hn (by decide)))
   have hs1 := size_str (Lib.decDigits (n / 10))
   have hs2 := size_str [UInt8.ofNat (48 + n % 10)]
   simp only [List.length_singleton] at hs2
   refine PC.of_va (T := tbd) eqs_ok tbd_ok rfl mixed Tryd.func32 rfl rfl (Nat.le_of_ble_eq_true rfl) ?_; intro Γ C WK LP fin h0 hW hC hB hR hLP hfin
   (try (conv => whnf)); (repeat ((first | refine qT ?_ | refine qF ?_ | refine qO ?_); (try (conv => whnf))))
   have hdv : ((n : Nat) : Int).tdiv 10 = ((n / 10 : Nat) : Int) := rfl
   have hmd : ((n : Nat) : Int).tmod 10 = ((n % 10 : Nat) : Int) := rfl
   intro z hz; obtain rfl : z = ((n / 10 : Nat) : Int) := by rw [hdv] at hz; omega
   (try (conv => whnf)); (repeat ((first | refine qT ?_ | refine qF ?_ | refine qO ?_); (try (conv => whnf))))
   refine CallV.mk _ (hC _ _ _ (PCw.of (hI))) (fun js hjs => ?_); subst hjs
   (try (conv => whnf)); (repeat ((first | refine qT ?_ | refine qF ?_ | refine qO ?_); (try (conv => whnf))))
   intro z hz; obtain rfl : z = ((n % 10 : Nat) : Int) := hz.trans hmd
   (try (conv => whnf)); (repeat ((first | refine qT ?_ | refine qF ?_ | refine qO ?_); (try (conv => whnf))))
   intro z hz; obtain rfl : z = ((48 + n % 10 : Nat) : Int) := by omega
   (try (conv => whnf)); (repeat ((first | refine qT ?_ | refine qF ?_ | refine qO ?_); (try (conv => whnf))))
   intro z hz; obtain rfl : z = ((48 + n % 10 : Nat) : Int) := hz.trans (wrap8 (Int.natCast_nonneg _) (by omega))
   (try (conv => whnf)); (repeat ((first | refine qT ?_ | refine qF ?_ | refine qO ?_ | (with_reducible intro z hz); (first | (replace hz := hz (by omega); subst hz) | subst hz)); (try (conv => whnf))))
   refine Bytes.mk [UInt8.ofNat (48 + n % 10)] (byte_row (by omega) rfl) ?_
   (try (conv => whnf)); (repeat ((first | refine qT ?_ | refine qF ?_ | refine qO ?_); (try (conv => whnf))))
   intro t ht; subst ht
   (try (conv => whnf)); (repeat ((first | refine qT ?_ | refine qF ?_ | refine qO ?_); (try (conv => whnf))))
   intro t ht; obtain rfl := ht.trans (cat_str _ _)
   (try (conv => whnf)); (repeat ((first | refine qT ?_ | refine qF ?_ | refine qO ?_ | (with_reducible intro z hz); (first | (replace hz := hz (by omega); subst hz) | subst hz)); (try (conv => whnf))))
   exact hfin _ (ILes.refl _)
theorem neg_td (n : Nat) : (-((n : Nat) : Int)).tdiv 10 = -((n / 10 : Nat) : Int) := by rw [Int.neg_tdiv]; rfl
theorem neg_tm (n : Nat) : (-((n : Nat) : Int)).tmod 10 = -((n % 10 : Nat) : Int) := by rw [Int.neg_tmod]; rfl
theorem rdig_neg (n : Nat) (h1 : 1 ≤ n) (hn : n ≤ 9223372036854775808) : PC Tryd.prog envH 32 [.int .i64 (-((n : Nat) : Int))] [.str ⟨(45 :: Lib.decDigits n).toArray⟩] := by
 induction n using Nat.strongRecOn with
 | _ n ih =>
 by_cases h : n < 10
 · rw [Lib.decDigits_one h]
   have hs1 := size_str [45]
   have hs2 := size_str [UInt8.ofNat (48 + n)]
   simp only [List.length_singleton] at hs1 hs2
   refine PC.of_va (T := tbd) eqs_ok tbd_ok rfl mixed Tryd.func32 rfl rfl (Nat.le_of_ble_eq_true rfl) ?_; intro Γ C WK LP fin h0 hW hC hB hR hLP hfin
   (try (conv => whnf)); (repeat ((first | refine qT ?_ | refine qF ?_ | refine qO ?_); (try (conv => whnf))))
   intro z hz; obtain rfl : z = ((48 + n : Nat) : Int) := by omega
   (try (conv => whnf)); (repeat ((first | refine qT ?_ | refine qF ?_ | refine qO ?_); (try (conv => whnf))))
   intro z hz; obtain rfl : z = ((48 + n : Nat) : Int) := hz.trans (wrap8 (Int.natCast_nonneg _) (by omega))
   (try (conv => whnf)); (repeat ((first | refine qT ?_ | refine qF ?_ | refine qO ?_ | (with_reducible intro z hz); (first | (replace hz := hz (by omega); subst hz) | subst hz)); (try (conv => whnf))))
   refine Bytes.mk [UInt8.ofNat (48 + n)] (byte_row (by omega) rfl) ?_
   (try (conv => whnf)); (repeat ((first | refine qT ?_ | refine qF ?_ | refine qO ?_); (try (conv => whnf))))
   intro t ht; subst ht
   (try (conv => whnf)); (repeat ((first | refine qT ?_ | refine qF ?_ | refine qO ?_); (try (conv => whnf))))
   intro t ht; obtain rfl := ht.trans (cat_str [45] [UInt8.ofNat (48 + n)])
   (try (conv => whnf)); (repeat ((first | refine qT ?_ | refine qF ?_ | refine qO ?_ | (with_reducible intro z hz); (first | (replace hz := hz (by omega); subst hz) | subst hz)); (try (conv => whnf))))
   exact hfin _ (ILes.refl _)
 · have hI := ih (n / 10) (by omega) (by omega) (by omega)
   rw [Lib.decDigits, dif_neg h]
   have hl := dec_le 19 (n / 10) (Nat.lt_of_le_of_lt (Nat.div_le_self _ _) (Nat.lt_of_le_of_lt hn (by decide)))
   have hs1 := size_str (45 :: Lib.decDigits (n / 10))
   have hs2 := size_str [UInt8.ofNat (48 + n % 10)]
   simp only [List.length_cons, List.length_nil] at hs1 hs2
   refine PC.of_va (T := tbd) eqs_ok tbd_ok rfl mixed Tryd.func32 rfl rfl (Nat.le_of_ble_eq_true rfl) ?_; intro Γ C WK LP fin h0 hW hC hB hR hLP hfin
   (try (conv => whnf)); (repeat ((first | refine qT ?_ | refine qF ?_ | refine qO ?_); (try (conv => whnf))))
   intro z hz; obtain rfl : z = -((n / 10 : Nat) : Int) := by rw [neg_td] at hz; omega
   (try (conv => whnf)); (repeat ((first | refine qT ?_ | refine qF ?_ | refine qO ?_); (try (conv => whnf))))
   refine CallV.mk _ (hC _ _ _ (PCw.of (hI))) (fun js hjs => ?_); subst hjs
   (try (conv => whnf)); (repeat ((first | refine qT ?_ | refine qF ?_ | refine qO ?_); (try (conv => whnf))))
   intro z hz; obtain rfl : z = -((n % 10 : Nat) : Int) := hz.trans (neg_tm n)
   (try (conv => whnf)); (repeat ((first | refine qT ?_ | refine qF ?_ | refine qO ?_); (try (conv => whnf))))
   intro z hz; obtain rfl : z = ((48 + n % 10 : Nat) : Int) := by omega
   (try (conv => whnf)); (repeat ((first | refine qT ?_ | refine qF ?_ | refine qO ?_); (try (conv => whnf))))
   intro z hz; obtain rfl : z = ((48 + n % 10 : Nat) : Int) := hz.trans (wrap8 (Int.natCast_nonneg _) (by omega))
   (try (conv => whnf)); (repeat ((first | refine qT ?_ | refine qF ?_ | refine qO ?_ | (with_reducible intro z hz); (first | (replace hz := hz (by omega); subst hz) | subst hz)); (try (conv => whnf))))
   refine Bytes.mk [UInt8.ofNat (48 + n % 10)] (byte_row (by omega) rfl) ?_
   (try (conv => whnf)); (repeat ((first | refine qT ?_ | refine qF ?_ | refine qO ?_); (try (conv => whnf))))
   intro t ht; subst ht
   (try (conv => whnf)); (repeat ((first | refine qT ?_ | refine qF ?_ | refine qO ?_); (try (conv => whnf))))
   intro t ht; obtain rfl := ht.trans (cat_str (45 :: Lib.decDigits (n / 10)) [UInt8.ofNat (48 + n % 10)])
   (try (conv => whnf)); (repeat ((first | refine qT ?_ | refine qF ?_ | refine qO ?_ | (with_reducible intro z hz); (first | (replace hz := hz (by omega); subst hz) | subst hz)); (try (conv => whnf))))
   exact hfin _ (ILes.refl _)
theorem rdig_pc (z : Int) (h0 : -9223372036854775808 ≤ z) (h1 : z ≤ 9223372036854775807) : PC Tryd.prog envH 32 [.int .i64 z] [.str (numS z)] := by
 unfold numS Lib.itoa
 by_cases hz : z < 0
 · rw [if_pos hz]
   have h := rdig_neg z.natAbs (by omega) (by omega)
   rwa [show -((z.natAbs : Nat) : Int) = z by omega] at h
 · rw [if_neg hz]
   have h := rdig_pos z.toNat (by omega)
   rwa [show ((z.toNat : Nat) : Int) = z by omega] at h
theorem num_len {z : Int} (h0 : -9223372036854775808 ≤ z) (h1 : z ≤ 9223372036854775807) : (numS z).size ≤ 21 := by
 unfold numS Lib.itoa
 rw [size_str]
 split
 · rw [List.length_cons]
   have := dec_le 19 z.natAbs (Nat.lt_of_le_of_lt (show z.natAbs ≤ 9223372036854775808 by omega) (by decide))
   omega
 · have := dec_le 19 z.toNat (Nat.lt_of_le_of_lt (show z.toNat ≤ 9223372036854775808 by omega) (by decide))
   omega
end Go.Proofs.YtopohipcpomecaaDoor.Pd
