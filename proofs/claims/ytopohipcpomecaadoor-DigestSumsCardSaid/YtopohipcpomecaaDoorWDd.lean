/-
  The hash of a string: by the program and by the reference.
-/
import Derived.Test.YtopohipcpomecaaDoorWDc
import Derived.Test.YtopohipcpomecaaDoorWDr
namespace Go.Proofs.YtopohipcpomecaaDoor.Pd
open Go Go.Pv Go.RowKit Go.Proofs.YtopohipcpomecaaDoor.Pu Go.Proofs.YtopohipcpomecaaDoor.Pb
set_option linter.unusedSimpArgs false
open Lab Lcs Go.Proofs.YtopohipcpomecaaDoor
set_option maxRecDepth 10000
set_option maxHeartbeats 16000000
theorem ifmt_pc (u k : Nat) (hu : u < 18446744073709551616) (hk1 : 1 ≤ k) (hk : k ≤ 16) (hlt : u < 16 ^ k) (hge : k = 1 ∨ 16 ^ (k - 1) ≤ u) : PC Tryd.prog envH 43 [.int .u64 (u : Nat), .int .i64 16] [.str ⟨(lowL k u).toArray⟩] := by
 have hB2 := bits_pc u k hu hk1 hk hlt hge
 refine PC.of_va (T := tbd) eqs_ok tbd_ok rfl mixed Tryd.func43 rfl rfl (Nat.le_of_ble_eq_true rfl) ?_; intro Γ C WK LP fin h0 hW hC hB hR hLP hfin
 (try (conv => whnf)); (repeat ((first | refine qT ?_ | refine qF ?_ | refine qO ?_ | (with_reducible intro z hz); (first | (replace hz := hz (by omega); subst hz) | subst hz) | (refine CallV.mk _ (hC _ _ _ (PCw.of hB2)) (fun js hjs => ?_); subst hjs)); (try (conv => whnf))))
 exact hfin _ (ILes.refl _)
theorem fmt_pc (u k : Nat) (hu : u < 18446744073709551616) (hk1 : 1 ≤ k) (hk : k ≤ 16) (hlt : u < 16 ^ k) (hge : k = 1 ∨ 16 ^ (k - 1) ≤ u) : PC Tryd.prog envH 25 [.int .u64 (u : Nat), .int .i64 16] [.str ⟨(lowL k u).toArray⟩] := by
 have hB2 := ifmt_pc u k hu hk1 hk hlt hge
 refine PC.of_va (T := tbd) eqs_ok tbd_ok rfl mixed Tryd.func25 rfl rfl (Nat.le_of_ble_eq_true rfl) ?_; intro Γ C WK LP fin h0 hW hC hB hR hLP hfin
 (try (conv => whnf)); (repeat ((first | refine qT ?_ | refine qF ?_ | refine qO ?_ | (with_reducible intro z hz); (first | (replace hz := hz (by omega); subst hz) | subst hz) | (refine CallV.mk _ (hC _ _ _ (PCw.of hB2)) (fun js hjs => ?_); subst hjs)); (try (conv => whnf))))
 exact hfin _ (ILes.refl _)
def stepH (s : Nat) (b : UInt8) : Nat :=
 let m := (s + b.toNat + 1) * 10723151780598845931 % 18446744073709551616
 m ^^^ (m / 2147483648)
def stateH (l : List UInt8) : Nat := l.foldl stepH 11400714819323198485
theorem wrapU (x : Int) : IntKind.u64.wrap x = x % 18446744073709551616 := by
 unfold IntKind.wrap
 simp [IntKind.signed, IntKind.bits]
theorem xor_lt {a b : Nat} (ha : a < 18446744073709551616) (hb : b < 18446744073709551616) : a ^^^ b < 18446744073709551616 := Nat.xor_lt_two_pow (n := 64) ha hb
theorem step_lt (s : Nat) (b : UInt8) : stepH s b < 18446744073709551616 := by
 unfold stepH
 exact xor_lt (Nat.mod_lt _ (by decide)) (Nat.lt_of_le_of_lt (Nat.div_le_self _ _) (Nat.mod_lt _ (by decide)))
theorem state_lt (l : List UInt8) : stateH l < 18446744073709551616 := by
 unfold stateH
 have : ∀ (l : List UInt8) (s : Nat), s < 18446744073709551616 → l.foldl stepH s < 18446744073709551616 := by
   intro l
   induction l with
   | nil => intro s h; exact h
   | cons b l ih => intro s h; exact ih _ (step_lt s b)
 exact this l _ (by decide)
theorem state_take {l : List UInt8} {k : Nat} {c : UInt8} (hc : l[k]? = some c) : stateH (l.take (k + 1)) = stepH (stateH (l.take k)) c := by
 unfold stateH
 rw [take_at hc, List.foldl_append, List.foldl_cons, List.foldl_nil]
theorem xorU {a b : Nat} (ha : a < 18446744073709551616) (hb : b < 18446744073709551616) : IntKind.u64.wrap (BitVec.ofInt IntKind.u64.bits (a : Int) ^^^ BitVec.ofInt IntKind.u64.bits (b : Int)).toNat = ((a ^^^ b : Nat) : Int) := by
 have e : ∀ {a : Nat}, a < 18446744073709551616 → (BitVec.ofInt IntKind.u64.bits (a : Int)).toNat = a := by
   intro a h
   rw [BitVec.toNat_ofInt]
   show ((a : Int) % ((2 ^ 64 : Nat) : Int)).toNat = a
   omega
 rw [BitVec.toNat_xor, e ha, e hb, wrapU]
 have := xor_lt ha hb
 omega
theorem shr31 (u : Nat) : (u : Int).fdiv (2 ^ (min (31 : Int).toNat IntKind.u64.bits)) = ((u / 2147483648 : Nat) : Int) := by
 show (u : Int).fdiv 2147483648 = _
 rw [Int.fdiv_eq_ediv_of_nonneg _ (by decide)]
 omega
theorem sum_pc (s : Str) (hs : s.size ≤ 100000000) : PC Tryd.prog envH 9 [.str s] [.str ⟨(lowL 16 (stateH s.data.toList)).toArray⟩] := by
 have hu := state_lt s.data.toList
 obtain ⟨k, hk1, hk, hlt, hge⟩ := digits_of (stateH s.data.toList) 16 (by decide) hu
 have hF := fmt_pc _ k hu hk1 hk hlt hge
 have hRp := rep0_pc (16 - k) (by omega)
 have hsz : (⟨(lowL k (stateH s.data.toList)).toArray⟩ : Str).size = k := by show (lowL k (stateH s.data.toList)).toArray.size = k; simp [lowL_len]
 refine PC.of_va (T := tbd) eqs_ok tbd_ok rfl mixed Tryd.func9 rfl rfl (Nat.le_of_ble_eq_true rfl) ?_; intro Γ C WK LP fin h0 hW hC hB hR hLP hfin
 (try (conv => whnf)); (repeat ((first | refine qT ?_ | refine qF ?_ | refine qO ?_ | (with_reducible intro z hz); (first | (replace hz := hz (by omega); subst hz) | subst hz)); (try (conv => whnf))))
 refine hLP _ _ _ Nat (fun j => ⟨[(0, .imm (.str s)), (3, .imm (.int .u64 ((stateH (s.data.toList.take j) : Nat) : Int))), (7, .imm (.int .i64 (s.size : Nat))), (8, .imm (.int .i64 (j : Nat)))], []⟩) (fun j => j ≤ s.size) (fun j => s.size - j) 0 (Nat.zero_le _) (qSL 0 rfl rfl) ?_
 intro j hj
 have hho := Nat.lt_or_ge j s.size
 cases hho with
 | inl hlt2 =>
   have hsl : s.data.toList.length = s.size := rfl
   obtain ⟨c, hc⟩ : ∃ c, s.data.toList[j]? = some c := ⟨s.data.toList[j], List.getElem?_eq_getElem (by omega)⟩
   have hst := state_take hc
   have hsm := state_lt (s.data.toList.take j)
   have hcl : c.toNat < 256 := c.toNat_lt
   have hm : (stateH (s.data.toList.take j) + c.toNat + 1) * 10723151780598845931 % 18446744073709551616 < 18446744073709551616 := Nat.mod_lt _ (by decide)
   (try (conv => whnf)); (repeat ((first | refine qT ?_ | refine qF ?_ | refine qO ?_); (try (conv => whnf))))
   intro c' z h1 hz
   rw [Int.toNat_natCast, ← Array.getElem?_toList, hc] at h1
   obtain rfl := Option.some.inj h1
   subst hz
   (try (conv => whnf)); (repeat ((first | refine qT ?_ | refine qF ?_ | refine qO ?_); (try (conv => whnf))))
   intro z hz; obtain rfl : z = ((c.toNat : Nat) : Int) := by rw [hz, wrapU]; omega
   (try (conv => whnf)); (repeat ((first | refine qT ?_ | refine qF ?_ | refine qO ?_); (try (conv => whnf))))
   intro z hz; obtain rfl : z = ((c.toNat + 1 : Nat) : Int) := by rw [hz, wrapU]; omega
   (try (conv => whnf)); (repeat ((first | refine qT ?_ | refine qF ?_ | refine qO ?_); (try (conv => whnf))))
   intro z hz; obtain rfl : z = (((stateH (s.data.toList.take j) + c.toNat + 1) % 18446744073709551616 : Nat) : Int) := by rw [hz, wrapU]; omega
   (try (conv => whnf)); (repeat ((first | refine qT ?_ | refine qF ?_ | refine qO ?_); (try (conv => whnf))))
   intro z hz; obtain rfl : z = (((stateH (s.data.toList.take j) + c.toNat + 1) * 10723151780598845931 % 18446744073709551616 : Nat) : Int) := by rw [hz, wrapU]; omega
   (try (conv => whnf)); (repeat ((first | refine qT ?_ | refine qF ?_ | refine qO ?_); (try (conv => whnf))))
   intro z hz; obtain rfl := hz.trans (shr31 _)
   (try (conv => whnf)); (repeat ((first | refine qT ?_ | refine qF ?_ | refine qO ?_); (try (conv => whnf))))
   intro z hz; obtain rfl : z = ((stateH (s.data.toList.take (j + 1)) : Nat) : Int) := by
     rw [hst]
     exact hz.trans (xorU hm (Nat.lt_of_le_of_lt (Nat.div_le_self _ _) hm))
   (try (conv => whnf)); (repeat ((first | refine qT ?_ | refine qF ?_ | refine qO ?_); (try (conv => whnf))))
   intro z hz; obtain rfl : z = ((j + 1 : Nat) : Int) := by omega
   (try (conv => whnf)); (repeat ((first | refine qT ?_ | refine qF ?_ | refine qO ?_); (try (conv => whnf))))
   exact ⟨j + 1, by omega, by dsimp only; omega, (qSL 0 rfl rfl)⟩
 | inr hge2 =>
   obtain rfl : j = s.size := by omega
   rw [List.take_of_length_le (show s.data.toList.length ≤ s.size from Nat.le_refl _)]
   generalize stateH s.data.toList = u at *
   (try (conv => whnf)); (repeat ((first | refine qT ?_ | refine qF ?_ | refine qO ?_); (try (conv => whnf))))
   refine CallV.mk _ (hC _ _ _ (PCw.of (hF))) (fun js hjs => ?_); subst hjs
   (try (conv => whnf)); (repeat ((first | refine qT ?_ | refine qF ?_ | refine qO ?_); (try (conv => whnf))))
   intro z hz; obtain rfl : z = ((k : Nat) : Int) := by rw [hz, hsz]
   (try (conv => whnf)); (repeat ((first | refine qT ?_ | refine qF ?_ | refine qO ?_); (try (conv => whnf))))
   intro z hz; obtain rfl : z = ((16 - k : Nat) : Int) := by omega
   (try (conv => whnf)); (repeat ((first | refine qT ?_ | refine qF ?_ | refine qO ?_); (try (conv => whnf))))
   refine CallV.mk _ (hC _ _ _ (PCw.of (hRp))) (fun js hjs => ?_); subst hjs
   (try (conv => whnf)); (repeat ((first | refine qT ?_ | refine qF ?_ | refine qO ?_); (try (conv => whnf))))
   have hr0 : (⟨(List.replicate (16 - k) (48 : UInt8)).toArray⟩ : Str).size = 16 - k := by show (List.replicate (16 - k) (48 : UInt8)).toArray.size = _; simp
   refine Owe.mk (by rw [hr0, hsz]; unfold most; omega) ?_
   intro t ht; obtain rfl : t = ⟨(lowL 16 u).toArray⟩ := by
     rw [ht]
     have h := lowL_zeros hlt (16 - k)
     rw [show k + (16 - k) = 16 by omega] at h
     rw [h]
     apply ByteArray.ext
     rw [ByteArray.data_append]
     simp
   (try (conv => whnf)); (repeat ((first | refine qT ?_ | refine qF ?_ | refine qO ?_ | (with_reducible intro z hz); (first | (replace hz := hz (by omega); subst hz) | subst hz)); (try (conv => whnf))))
   exact hfin _ (ILes.refl _)
end Go.Proofs.YtopohipcpomecaaDoor.Pd
