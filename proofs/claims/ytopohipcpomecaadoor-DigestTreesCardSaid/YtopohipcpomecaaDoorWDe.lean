/-
  The hash of a string by the reference.
-/
import Derived.Test.YtopohipcpomecaaDoorWDd
namespace Go.Proofs.YtopohipcpomecaaDoor.Pd
open Go Go.Pv Go.RowKit Go.Proofs.YtopohipcpomecaaDoor.Pu Go.Proofs.YtopohipcpomecaaDoor.Pb
set_option linter.unusedSimpArgs false
open Lab Lcs Go.Proofs.YtopohipcpomecaaDoor
set_option maxRecDepth 10000
set_option maxHeartbeats 16000000
theorem dig_nat {d : Nat} (h : d < 16) : (dig d).toNat = if d < 10 then 48 + d else 87 + d := by
 unfold dig
 split
 · rw [UInt8.toNat_ofNat']; omega
 · rw [UInt8.toNat_ofNat']; omega
theorem low_at : ∀ {k i : Nat} (u : Nat), i < k → (lowL k u)[i]? = some (dig (u / 16 ^ (k - 1 - i) % 16))
 | 0, _, _, h => by omega
 | k + 1, 0, u, _ => by rw [lowL]; rfl
 | k + 1, i + 1, u, h => by
   rw [lowL, List.getElem?_cons_succ, low_at u (by omega : i < k)]
   rw [show k + 1 - 1 - (i + 1) = k - 1 - i by omega]
theorem wrap8 {x : Int} (h0 : 0 ≤ x) (h : x < 256) : IntKind.u8.wrap x = x := by
 unfold IntKind.wrap
 simp [IntKind.signed, IntKind.bits]
 omega
theorem shrD (u i : Nat) (h : i < 16) : (u : Int).fdiv (2 ^ (min ((60 - 4 * i : Nat) : Int).toNat IntKind.u64.bits)) = ((u / 16 ^ (15 - i) : Nat) : Int) := by
 have e : min ((60 - 4 * i : Nat) : Int).toNat IntKind.u64.bits = 4 * (15 - i) := by
   rw [Int.toNat_natCast]
   show min (60 - 4 * i) 64 = _
   omega
 rw [e, Int.fdiv_eq_ediv_of_nonneg _ (by exact Int.le_of_lt (Int.pow_pos (by decide))), Int.pow_mul]
 norm_cast
theorem rtext_pc (s : Str) (hs : s.size ≤ 100000000) : PC Tryd.prog envH 10 [.str s] [.str ⟨(lowL 16 (stateH s.data.toList)).toArray⟩] := by
 have hu := state_lt s.data.toList
 refine PC.of_va (T := tbd) eqs_ok tbd_ok rfl mixed Tryd.func10 rfl rfl (Nat.le_of_ble_eq_true rfl) ?_; intro Γ C WK LP fin h0 hW hC hB hR hLP hfin
 (try (conv => whnf)); (repeat ((first | refine qT ?_ | refine qF ?_ | refine qO ?_ | (with_reducible intro z hz); (first | (replace hz := hz (by omega); subst hz) | subst hz)); (try (conv => whnf))))
 refine hLP _ _ _ Nat (fun j => ⟨[(0, .imm (.str s)), (3, .imm (.int .u64 ((stateH (s.data.toList.take j) : Nat) : Int))), (4, .imm (.int .i64 (j : Nat)))], []⟩) (fun j => j ≤ s.size) (fun j => s.size - j) 0 (Nat.zero_le _) (qSL 0 rfl rfl) ?_
 intro j hj
 have hho := Nat.lt_or_ge j s.size
 cases hho with
 | inl hlt2 =>
   refine (?_ : ∀ Q : Exit → AS → Prop, vcS _ _ _ _ _ _ _ (loopQA _ _ _ _ _ _ Q)) _; intro Q
   have hsl : s.data.toList.length = s.size := rfl
   obtain ⟨c, hc⟩ : ∃ c, s.data.toList[j]? = some c := ⟨s.data.toList[j], List.getElem?_eq_getElem (by omega)⟩
   have hst := state_take hc
   have hsm := state_lt (s.data.toList.take j)
   have hcl : c.toNat < 256 := c.toNat_lt
   have hm : (stateH (s.data.toList.take j) + c.toNat + 1) * 10723151780598845931 % 18446744073709551616 < 18446744073709551616 := Nat.mod_lt _ (by decide)
   (try (conv => whnf)); (repeat ((first | refine qT ?_ | refine qF ?_ | refine qO ?_); (try (conv => whnf))))
   intro z hz; obtain rfl : z = ((s.size : Nat) : Int) := hz
   (try (conv => whnf)); (repeat ((first | refine qT ?_ | refine qF ?_ | refine qO ?_); (try (conv => whnf))))
   intro c' z h1 hz
   rw [Int.toNat_natCast, ← Array.getElem?_toList, hc] at h1
   obtain rfl := Option.some.inj h1
   subst hz
   (try (conv => whnf)); (repeat ((first | refine qT ?_ | refine qF ?_ | refine qO ?_); (try (conv => whnf))))
   intro z hz; obtain rfl : z = ((c.toNat : Nat) : Int) := by rw [hz, wrapU]; omega
   (try (conv => whnf)); (repeat ((first | refine qT ?_ | refine qF ?_ | refine qO ?_); (try (conv => whnf))))
   intro z hz; obtain rfl : z = (((stateH (s.data.toList.take j) + c.toNat) % 18446744073709551616 : Nat) : Int) := by rw [hz, wrapU]; omega
   (try (conv => whnf)); (repeat ((first | refine qT ?_ | refine qF ?_ | refine qO ?_); (try (conv => whnf))))
   intro z hz; obtain rfl : z = (((stateH (s.data.toList.take j) + c.toNat + 1) % 18446744073709551616 : Nat) : Int) := by rw [hz, wrapU]; omega
   (try (conv => whnf)); (repeat ((first | refine qT ?_ | refine qF ?_ | refine qO ?_); (try (conv => whnf))))
   intro z hz; obtain rfl : z = (((stateH (s.data.toList.take j) + c.toNat + 1) * 10723151780598845931 % 18446744073709551616 : Nat) : Int) := by rw [hz, wrapU]; omega
   (try (conv => whnf)); (repeat ((first | refine qT ?_ | refine qF ?_ | refine qO ?_); (try (conv => whnf))))
   intro z hz; obtain rfl := hz.trans (shr31 _)
   (try (conv => whnf)); (repeat ((first | refine qT ?_ | refine qF ?_ | refine qO ?_); (try (conv => whnf))))
   intro z hz; obtain rfl : z = ((stateH (s.data.toList.take (j + 1)) : Nat) : Int) := by
     rw [hst]
     exact hz.trans (xorU hm (Nat.lt_of_le_of_lt (Nat.div_le_self _ _) hm))
   (try (conv => whnf)); (repeat ((first | refine qT ?_ | refine qF ?_ | refine qO ?_); (try (conv => whnf))))
   intro z hz; obtain rfl : z = ((j + 1 : Nat) : Int) := by omega
   (try (conv => whnf)); (repeat ((first | refine qT ?_ | refine qF ?_ | refine qO ?_); (try (conv => whnf))))
   exact ⟨j + 1, by omega, by dsimp only; omega, (qSL 0 rfl rfl)⟩
 | inr hge2 =>
   obtain rfl : j = s.size := by omega
   rw [List.take_of_length_le (show s.data.toList.length ≤ s.size from Nat.le_refl _)]
   generalize stateH s.data.toList = u at *
   (try (conv => whnf)); (repeat ((first | refine qT ?_ | refine qF ?_ | refine qO ?_ | (with_reducible intro z hz); (first | (replace hz := hz (by omega); subst hz) | subst hz)); (try (conv => whnf))))
   refine hLP _ _ _ Nat (fun i => ⟨[(3, .imm (.int .u64 ((u : Nat) : Int))), (5, .row 0 1), (6, .imm (.int .i64 (i : Nat)))], [.row 5 1 1 (bytesV ((lowL 16 u).take i))]⟩) (fun i => i ≤ 16) (fun i => 16 - i) 0 (Nat.zero_le _) ((WeakA.row 0 (bytesV ((lowL 16 u).take 0)) rfl (by rfl)).trans (qSL 1 rfl rfl)) ?_
   intro i hi
   have hho := Nat.lt_or_ge i 16
   cases hho with
   | inl hlt3 =>
     have hd16 : u / 16 ^ (15 - i) % 16 < 16 := Nat.mod_lt _ (by decide)
     have hdn := dig_nat hd16
     have hla : (lowL 16 u).take (i + 1) = (lowL 16 u).take i ++ [dig (u / 16 ^ (15 - i) % 16)] := take_at (low_at u hlt3)
     have hdv : u / 16 ^ (15 - i) < 18446744073709551616 := Nat.lt_of_le_of_lt (Nat.div_le_self _ _) hu
     have hrl : (bytesV ((lowL 16 u).take i)).length + 1 ≤ most := by simp [lowL_len, most]; omega
     by_cases hten : u / 16 ^ (15 - i) % 16 < 10
     · skip
       (try (conv => whnf)); (repeat ((first | refine qT ?_ | refine qF ?_ | refine qO ?_); (try (conv => whnf))))
       intro z hz; obtain rfl : z = ((4 * i : Nat) : Int) := by omega
       (try (conv => whnf)); (repeat ((first | refine qT ?_ | refine qF ?_ | refine qO ?_); (try (conv => whnf))))
       intro z hz; obtain rfl : z = ((60 - 4 * i : Nat) : Int) := by omega
       (try (conv => whnf)); (repeat ((first | refine qT ?_ | refine qF ?_ | refine qO ?_); (try (conv => whnf))))
       intro z hz; obtain rfl : z = ((60 - 4 * i : Nat) : Int) := by rw [hz, wrapU]; omega
       (try (conv => whnf)); (repeat ((first | refine qT ?_ | refine qF ?_ | refine qO ?_); (try (conv => whnf))))
       intro z hz; obtain rfl := hz.trans (shrD u i hlt3)
       (try (conv => whnf)); (repeat ((first | refine qT ?_ | refine qF ?_ | refine qO ?_); (try (conv => whnf))))
       intro z hz; obtain rfl := hz.trans (and15 hdv)
       (try (conv => whnf)); (repeat ((first | refine qT ?_ | refine qF ?_ | refine qO ?_); (try (conv => whnf))))
       intro z hz; obtain rfl : z = ((u / 16 ^ (15 - i) % 16 : Nat) : Int) := hz.trans (wrap8 (Int.natCast_nonneg _) (by omega))
       (try (conv => whnf)); (repeat ((first | refine qT ?_ | refine qF ?_ | refine qO ?_); (try (conv => whnf))))
       intro z hz; obtain rfl : z = (((dig (u / 16 ^ (15 - i) % 16)).toNat : Nat) : Int) := by rw [hz, hdn, if_pos hten, wrap8 (by omega) (by omega)]; omega
       (try (conv => whnf)); (repeat ((first | refine qT ?_ | refine qF ?_ | refine qO ?_ | (with_reducible intro z hz); (first | (replace hz := hz (by omega); subst hz) | subst hz)); (try (conv => whnf))))
       exact ⟨i + 1, by omega, by dsimp only; omega, ((WeakA.row 0 (bytesV ((lowL 16 u).take (i + 1))) rfl (by rw [hla]; simp [bytesV]))).trans ((WeakA.renew 0 1 rfl (by first | omega | (intro _; rw [hk0 _ _ rfl]; exact Nat.le_of_ble_eq_true rfl)) (by repeat (first | exact trivial | refine And.intro (rgL_imms _ _ _ _) ?_ | refine And.intro rfl ?_))).trans (qSL 1 rfl rfl))⟩
     · skip
       (try (conv => whnf)); (repeat ((first | refine qT ?_ | refine qF ?_ | refine qO ?_); (try (conv => whnf))))
       intro z hz; obtain rfl : z = ((4 * i : Nat) : Int) := by omega
       (try (conv => whnf)); (repeat ((first | refine qT ?_ | refine qF ?_ | refine qO ?_); (try (conv => whnf))))
       intro z hz; obtain rfl : z = ((60 - 4 * i : Nat) : Int) := by omega
       (try (conv => whnf)); (repeat ((first | refine qT ?_ | refine qF ?_ | refine qO ?_); (try (conv => whnf))))
       intro z hz; obtain rfl : z = ((60 - 4 * i : Nat) : Int) := by rw [hz, wrapU]; omega
       (try (conv => whnf)); (repeat ((first | refine qT ?_ | refine qF ?_ | refine qO ?_); (try (conv => whnf))))
       intro z hz; obtain rfl := hz.trans (shrD u i hlt3)
       (try (conv => whnf)); (repeat ((first | refine qT ?_ | refine qF ?_ | refine qO ?_); (try (conv => whnf))))
       intro z hz; obtain rfl := hz.trans (and15 hdv)
       (try (conv => whnf)); (repeat ((first | refine qT ?_ | refine qF ?_ | refine qO ?_); (try (conv => whnf))))
       intro z hz; obtain rfl : z = ((u / 16 ^ (15 - i) % 16 : Nat) : Int) := hz.trans (wrap8 (Int.natCast_nonneg _) (by omega))
       (try (conv => whnf)); (repeat ((first | refine qT ?_ | refine qF ?_ | refine qO ?_); (try (conv => whnf))))
       intro z hz; obtain rfl : z = (((dig (u / 16 ^ (15 - i) % 16)).toNat : Nat) : Int) := by rw [hz, hdn, if_neg hten, wrap8 (by omega) (by omega)]; omega
       (try (conv => whnf)); (repeat ((first | refine qT ?_ | refine qF ?_ | refine qO ?_ | (with_reducible intro z hz); (first | (replace hz := hz (by omega); subst hz) | subst hz)); (try (conv => whnf))))
       exact ⟨i + 1, by omega, by dsimp only; omega, ((WeakA.row 0 (bytesV ((lowL 16 u).take (i + 1))) rfl (by rw [hla]; simp [bytesV]))).trans ((WeakA.renew 0 1 rfl (by first | omega | (intro _; rw [hk0 _ _ rfl]; exact Nat.le_of_ble_eq_true rfl)) (by repeat (first | exact trivial | refine And.intro (rgL_imms _ _ _ _) ?_ | refine And.intro rfl ?_))).trans (qSL 1 rfl rfl))⟩
   | inr hge3 =>
     obtain rfl : i = 16 := by omega
     (try (conv => whnf)); (repeat ((first | refine qT ?_ | refine qF ?_ | refine qO ?_); (try (conv => whnf))))
     refine Bytes.mk (lowL 16 u) (by rw [List.take_of_length_le (Nat.le_of_eq (lowL_len 16 u)), bytesV, List.map_map]; rfl) ?_
     (try (conv => whnf)); (repeat ((first | refine qT ?_ | refine qF ?_ | refine qO ?_ | (with_reducible intro z hz); (first | (replace hz := hz (by omega); subst hz) | subst hz)); (try (conv => whnf))))
     exact hfin _ (ILes.refl _)
end Go.Proofs.YtopohipcpomecaaDoor.Pd
