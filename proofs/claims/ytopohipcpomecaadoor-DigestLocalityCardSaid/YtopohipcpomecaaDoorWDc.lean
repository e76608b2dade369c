/-
  The library's formatBits with base 16: the loop.
-/
import Derived.Test.YtopohipcpomecaaDoorWDb
namespace Go.Proofs.YtopohipcpomecaaDoor.Pd
open Go Go.Pv Go.RowKit Go.Proofs.YtopohipcpomecaaDoor.Pu Go.Proofs.YtopohipcpomecaaDoor.Pb
set_option linter.unusedSimpArgs false
open Lab Lcs Go.Proofs.YtopohipcpomecaaDoor
set_option maxRecDepth 10000
set_option maxHeartbeats 16000000
abbrev bytesV (L : List UInt8) : List PV := (L.map fun b : UInt8 => IV.int .u8 (b.toNat : Int)).map .imm
def arrL (j u : Nat) : List UInt8 := List.replicate (65 - j) 0 ++ lowL j u
theorem arr_len {j u : Nat} (h : j ≤ 65) : (bytesV (arrL j u)).length = 65 := by simp [arrL, lowL_len]; omega
theorem arr_set {j u : Nat} (h : j ≤ 64) : (arrL j u).set (64 - j) (dig (u / 16 ^ j % 16)) = arrL (j + 1) u := by
 unfold arrL
 rw [show 65 - j = (64 - j) + 1 by omega, List.replicate_succ', List.append_assoc, List.set_append_right _ _ (by simp), List.length_replicate, Nat.sub_self, show 65 - (j + 1) = 64 - j by omega]
 rfl
theorem arr_drop {j u : Nat} : (arrL j u).drop (65 - j) = lowL j u := by
 unfold arrL
 rw [List.drop_append_of_le_length (by simp), List.drop_of_length_le (by simp), List.nil_append]
theorem arr_old {j u : Nat} (h : j ≤ 64) : (bytesV (arrL j u))[64 - j]? = some (.imm (.int .u8 0)) := by
 have : (arrL j u)[64 - j]? = some 0 := by
   unfold arrL
   rw [List.getElem?_append_left (by simp; omega), List.getElem?_replicate, if_pos (by omega)]
 rw [List.getElem?_map, List.getElem?_map, this]
 rfl
theorem dig_at {d : Nat} {c : UInt8} (hd : d < 16) (h : (#[48, 49, 50, 51, 52, 53, 54, 55, 56, 57, 97, 98, 99, 100, 101, 102, 103, 104, 105, 106, 107, 108, 109, 110, 111, 112, 113, 114, 115, 116, 117, 118, 119, 120, 121, 122] : Array UInt8)[d]? = some c) : c = dig d := by
 have hall : ∀ d : Fin 16, (#[48, 49, 50, 51, 52, 53, 54, 55, 56, 57, 97, 98, 99, 100, 101, 102, 103, 104, 105, 106, 107, 108, 109, 110, 111, 112, 113, 114, 115, 116, 117, 118, 119, 120, 121, 122] : Array UInt8)[d.val]? = some (dig d.val) := by decide
 have := hall ⟨d, hd⟩
 rw [h] at this
 exact Option.some.inj this
theorem bits_pc (u k : Nat) (hu : u < 18446744073709551616) (hk1 : 1 ≤ k) (hk : k ≤ 16) (hlt : u < 16 ^ k) (hge : k = 1 ∨ 16 ^ (k - 1) ≤ u) :
   PC Tryd.prog envH 62 [.nil, .int .u64 (u : Nat), .int .i64 16, .bool false, .bool false] [.nil, .str ⟨(lowL k u).toArray⟩] := by
 have hI := isPow_pc
 have hT := tz_pc
 have hsm : ∀ j, u / 16 ^ j < 18446744073709551616 := fun j => Nat.lt_of_le_of_lt (Nat.div_le_self _ _) hu
 refine PC.of_va (T := tbd) eqs_ok tbd_ok rfl mixed Tryd.func62 rfl rfl (Nat.le_of_ble_eq_true rfl) ?_; intro Γ C WK LP fin h0 hW hC hB hR hLP hfin
 (try (conv => whnf)); (repeat ((first | refine qT ?_ | refine qF ?_ | refine qO ?_); (try (conv => whnf))))
 refine CallV.mk _ (hC _ _ _ (PCw.of (hI))) (fun js hjs => ?_); subst hjs
 (try (conv => whnf)); (repeat ((first | refine qT ?_ | refine qF ?_ | refine qO ?_); (try (conv => whnf))))
 intro z hz; obtain rfl : z = 16 := hz.trans (by decide)
 (try (conv => whnf)); (repeat ((first | refine qT ?_ | refine qF ?_ | refine qO ?_); (try (conv => whnf))))
 refine CallV.mk _ (hC _ _ _ (PCw.of (hT))) (fun js hjs => ?_); subst hjs
 (try (conv => whnf)); (repeat ((first | refine qT ?_ | refine qF ?_ | refine qO ?_); (try (conv => whnf))))
 intro z hz; obtain rfl : z = 4 := hz.trans (by decide)
 (try (conv => whnf)); (repeat ((first | refine qT ?_ | refine qF ?_ | refine qO ?_); (try (conv => whnf))))
 intro z hz; obtain rfl : z = 16 := hz.trans (by decide)
 (try (conv => whnf)); (repeat ((first | refine qT ?_ | refine qF ?_ | refine qO ?_); (try (conv => whnf))))
 intro z hz; obtain rfl : z = 16 := hz.trans (by decide)
 (try (conv => whnf)); (repeat ((first | refine qT ?_ | refine qF ?_ | refine qO ?_); (try (conv => whnf))))
 intro z hz; obtain rfl : z = 15 := hz.trans (by decide)
 (try (conv => whnf)); (repeat ((first | refine qT ?_ | refine qF ?_ | refine qO ?_); (try (conv => whnf))))
 refine hLP _ _ _ Nat (fun j => ⟨[(0, .imm .nil), (1, .imm (.int .u64 ((u / 16 ^ j : Nat) : Int))), (3, .imm (.bool false)), (4, .imm (.bool false)), (10, .imm .nil), (12, .eptr 0 1 1 0 0), (13, .imm (.int .i64 ((65 - j : Nat) : Int))), (14, .imm (.int .u64 4)), (15, .imm (.int .u64 16)), (16, .imm (.int .u64 15))], [.row 113 1 1 (bytesV (arrL j u))]⟩) (fun j => j + 1 ≤ k) (fun j => k - j) 0 (by omega) ?_ ?_
 · dsimp only []
   rw [Nat.pow_zero, Nat.div_one]
   exact ((WeakA.row 0 (bytesV (arrL 0 u)) rfl (by rfl))).trans (qSL 1 rfl rfl)
 intro j hj
 have hal := arr_len (j := j) (u := u) (by omega)
 have hjs := hsm j
 have hd16 : u / 16 ^ j % 16 < 16 := Nat.mod_lt _ (by decide)
 have hst := arr_set (j := j) (u := u) (by omega)
 by_cases hjk : j + 1 < k
 · have hu16 : 16 ≤ u / 16 ^ j := by
     rcases hge with h | h
     · omega
     · rw [Nat.le_div_iff_mul_le (Nat.pow_pos (by decide))]
       refine Nat.le_trans ?_ h
       rw [← Nat.pow_succ']
       exact Nat.pow_le_pow_right (by decide) (by omega)
   (try (conv => whnf)); (repeat ((first | refine qT ?_ | refine qF ?_ | refine qO ?_); (try (conv => whnf))))
   intro z hz; obtain rfl : z = ((64 - j : Nat) : Int) := by omega
   (try (conv => whnf)); (repeat ((first | refine qT ?_ | refine qF ?_ | refine qO ?_); (try (conv => whnf))))
   intro z hz; obtain rfl : z = ((u / 16 ^ j % 16 : Nat) : Int) := hz.trans (and15 hjs)
   (try (conv => whnf)); (repeat ((first | refine qT ?_ | refine qF ?_ | refine qO ?_); (try (conv => whnf))))
   refine Owe.mk ⟨Int.natCast_nonneg _, Int.lt_of_lt_of_le (Int.ofNat_lt.2 hd16) (by decide)⟩ ?_
   intro c z hc hz
   rw [Int.toNat_natCast] at hc
   obtain rfl := dig_at hd16 hc
   subst hz
   (try (conv => whnf)); (repeat ((first | refine qT ?_ | refine qF ?_ | refine qO ?_); (try (conv => whnf))))
   refine Pos.mk (64 - j) rfl (by omega) ?_
   (try (conv => whnf)); (repeat ((first | refine qT ?_ | refine qF ?_ | refine qO ?_); (try (conv => whnf))))
   refine At.mk (.imm (.int .u8 0)) (arr_old (by omega)) ?_
   (try (conv => whnf)); (repeat ((first | refine qT ?_ | refine qF ?_ | refine qO ?_); (try (conv => whnf))))
   intro es' he; obtain rfl : es' = bytesV (arrL (j + 1) u) := he.trans (by rw [← hst, bytesV, bytesV, List.map_set, List.map_set]; rfl)
   clear he
   (try (conv => whnf)); (repeat ((first | refine qT ?_ | refine qF ?_ | refine qO ?_); (try (conv => whnf))))
   intro z hz; obtain rfl : z = ((u / 16 ^ (j + 1) : Nat) : Int) := hz.trans (shr4 u j)
   (try (conv => whnf)); (repeat ((first | refine qT ?_ | refine qF ?_ | refine qO ?_); (try (conv => whnf))))
   exact ⟨j + 1, by omega, by dsimp only; omega, (qSL 1 rfl rfl)⟩
 · obtain rfl : k = j + 1 := by omega
   have hmod : u / 16 ^ j % 16 = u / 16 ^ j := Nat.mod_eq_of_lt (by rw [Nat.div_lt_iff_lt_mul (Nat.pow_pos (by decide)), ← Nat.pow_succ']; exact hlt)
   rw [← hmod]
   (try (conv => whnf)); (repeat ((first | refine qT ?_ | refine qF ?_ | refine qO ?_); (try (conv => whnf))))
   intro z hz; obtain rfl : z = ((64 - j : Nat) : Int) := by omega
   (try (conv => whnf)); (repeat ((first | refine qT ?_ | refine qF ?_ | refine qO ?_); (try (conv => whnf))))
   refine Owe.mk ⟨Int.natCast_nonneg _, Int.lt_of_lt_of_le (Int.ofNat_lt.2 hd16) (by decide)⟩ ?_
   intro c z hc hz
   rw [Int.toNat_natCast] at hc
   obtain rfl := dig_at hd16 hc
   subst hz
   (try (conv => whnf)); (repeat ((first | refine qT ?_ | refine qF ?_ | refine qO ?_); (try (conv => whnf))))
   refine Pos.mk (64 - j) rfl (by omega) ?_
   (try (conv => whnf)); (repeat ((first | refine qT ?_ | refine qF ?_ | refine qO ?_); (try (conv => whnf))))
   refine At.mk (.imm (.int .u8 0)) (arr_old (by omega)) ?_
   (try (conv => whnf)); (repeat ((first | refine qT ?_ | refine qF ?_ | refine qO ?_); (try (conv => whnf))))
   have hal2 := arr_len (j := j + 1) (u := u) (by omega)
   intro es' he; obtain rfl : es' = bytesV (arrL (j + 1) u) := he.trans (by rw [← hst, bytesV, bytesV, List.map_set, List.map_set]; rfl)
   clear he
   (try (conv => whnf)); (repeat ((first | refine qT ?_ | refine qF ?_ | refine qO ?_); (try (conv => whnf))))
   intro a ha; obtain rfl : a = 64 - j := by omega
   intro b hb; obtain rfl : b = j + 1 := by omega
   (try (conv => whnf)); (repeat ((first | refine qT ?_ | refine qF ?_ | refine qO ?_); (try (conv => whnf))))
   refine Bytes.mk (lowL (j + 1) u) ?_ ?_
   · have h := arr_drop (j := j + 1) (u := u)
     rw [show 65 - (j + 1) = 64 - j by omega] at h
     rw [bytesV, ← List.map_drop, ← List.map_drop, h, List.take_of_length_le (by rw [List.length_map, List.length_map, lowL_len]; exact Nat.le_refl _), List.map_map]
     rfl
   (try (conv => whnf)); (repeat ((first | refine qT ?_ | refine qF ?_ | refine qO ?_ | (with_reducible intro z hz); (first | (replace hz := hz (by omega); subst hz) | subst hz)); (try (conv => whnf))))
   exact hfin _ (ILes.refl _)
end Go.Proofs.YtopohipcpomecaaDoor.Pd
