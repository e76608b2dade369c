/-
  The library's formatBits with base 16.
-/
import Derived.Test.YtopohipcpomecaaDoorWDa
namespace Go.Proofs.YtopohipcpomecaaDoor.Pd
open Go Go.Pv Go.RowKit Go.Proofs.YtopohipcpomecaaDoor.Pu Go.Proofs.YtopohipcpomecaaDoor.Pb
set_option linter.unusedSimpArgs false
open Lab Lcs Go.Proofs.YtopohipcpomecaaDoor
set_option maxRecDepth 10000
set_option maxHeartbeats 16000000
theorem isPow_pc : PC Tryd.prog envH 83 [.int .i64 16] [.bool true] := by
 refine PC.of_va (T := tbd) eqs_ok tbd_ok rfl mixed Tryd.func83 rfl rfl (Nat.le_of_ble_eq_true rfl) ?_; intro Γ C WK LP fin h0 hW hC hB hR hLP hfin
 (try (conv => whnf)); (repeat ((first | refine qT ?_ | refine qF ?_ | refine qO ?_); (try (conv => whnf))))
 intro z hz; obtain rfl : z = 15 := by omega
 (try (conv => whnf)); (repeat ((first | refine qT ?_ | refine qF ?_ | refine qO ?_); (try (conv => whnf))))
 intro z hz; obtain rfl : z = 0 := hz.trans (by decide)
 (try (conv => whnf)); (repeat ((first | refine qT ?_ | refine qF ?_ | refine qO ?_ | (with_reducible intro z hz); (first | (replace hz := hz (by omega); subst hz) | subst hz)); (try (conv => whnf))))
 exact hfin _ (ILes.refl _)
theorem tz64_pc : PC Tryd.prog envH 94 [.int .u64 16] [.int .i64 4] := by
 refine PC.of_va (T := tbd) eqs_ok tbd_ok rfl mixed Tryd.func94 rfl rfl (Nat.le_of_ble_eq_true rfl) ?_; intro Γ C WK LP fin h0 hW hC hB hR hLP hfin
 (try (conv => whnf)); (repeat ((first | refine qT ?_ | refine qF ?_ | refine qO ?_); (try (conv => whnf))))
 intro z hz; obtain rfl : z = 18446744073709551600 := hz.trans (by decide)
 (try (conv => whnf)); (repeat ((first | refine qT ?_ | refine qF ?_ | refine qO ?_); (try (conv => whnf))))
 intro z hz; obtain rfl : z = 16 := hz.trans (by decide)
 (try (conv => whnf)); (repeat ((first | refine qT ?_ | refine qF ?_ | refine qO ?_); (try (conv => whnf))))
 intro z hz; obtain rfl : z = 4573923408821661840 := hz.trans (by decide)
 (try (conv => whnf)); (repeat ((first | refine qT ?_ | refine qF ?_ | refine qO ?_); (try (conv => whnf))))
 intro z hz; obtain rfl : z = 15 := hz.trans (by decide)
 (try (conv => whnf)); (repeat ((first | refine qT ?_ | refine qF ?_ | refine qO ?_); (try (conv => whnf))))
 intro cs hcs; obtain rfl : cs = (tzs.drop 15).map (IV.int .u8) := hcs.trans (by rfl)
 (try (conv => whnf)); (repeat ((first | refine qT ?_ | refine qF ?_ | refine qO ?_); (try (conv => whnf))))
 intro z hz; obtain rfl : z = 4 := by omega
 (try (conv => whnf)); (repeat ((first | refine qT ?_ | refine qF ?_ | refine qO ?_ | (with_reducible intro z hz); (first | (replace hz := hz (by omega); subst hz) | subst hz)); (try (conv => whnf))))
 exact hfin _ (ILes.refl _)
theorem tz_pc : PC Tryd.prog envH 84 [.int .u64 16] [.int .i64 4] := by
 have hT := tz64_pc
 refine PC.of_va (T := tbd) eqs_ok tbd_ok rfl mixed Tryd.func84 rfl rfl (Nat.le_of_ble_eq_true rfl) ?_; intro Γ C WK LP fin h0 hW hC hB hR hLP hfin
 (try (conv => whnf)); (repeat ((first | refine qT ?_ | refine qF ?_ | refine qO ?_ | (with_reducible intro z hz); (first | (replace hz := hz (by omega); subst hz) | subst hz) | (refine CallV.mk _ (hC _ _ _ (PCw.of hT)) (fun js hjs => ?_); subst hjs)); (try (conv => whnf))))
 exact hfin _ (ILes.refl _)
end Go.Proofs.YtopohipcpomecaaDoor.Pd
