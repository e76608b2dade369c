/-
  The library's strings.Builder: WriteString and String, as calls that are given the builder and its row of bytes.
-/
import Derived.Test.YtopohipcpomecaaDoorWDh
import Derived.Test.YtopohipcpomecaaDoorP7
namespace Go.Proofs.YtopohipcpomecaaDoor.Pd
open Go Go.Pv Go.RowKit Go.Proofs.YtopohipcpomecaaDoor.Pu Go.Proofs.YtopohipcpomecaaDoor.Pb
set_option linter.unusedSimpArgs false
open Lab Lcs Go.Proofs.YtopohipcpomecaaDoor
set_option maxRecDepth 10000
set_option maxHeartbeats 16000000
theorem tqb_p : tdOf Tryd.prog 72 = some ⟨false, 1, [.np], .ptr 74⟩ := by kernel_rfl
theorem tqb_b : tdOf Tryd.prog 74 = some ⟨true, 2, [.np, .nil], .struct [(0, 1, false), (1, 1, false)]⟩ := by kernel_rfl
theorem tqb_u : tdOf Tryd.prog 99 = some ⟨false, 1, [.np], .ptr 5⟩ := by kernel_rfl
theorem tqb_fw : tdOf Tryd.prog 83 = some ⟨false, 1, [.nf], .fn⟩ := by kernel_rfl
def tdb : List (TypeId × TD) := (72, ⟨false, 1, [.np], .ptr 74⟩) :: (74, ⟨true, 2, [.np, .nil], .struct [(0, 1, false), (1, 1, false)]⟩) :: (99, ⟨false, 1, [.np], .ptr 5⟩) :: (83, ⟨false, 1, [.nf], .fn⟩) :: tdw
theorem tdb_ok : AllTd Tryd.prog tdb := ⟨tqb_p, tqb_b, tqb_u, tqb_fw, tdw_ok⟩
def tbb0 (hk : Nat → Bool) : Tb := ⟨Pv.look tdb, eqs, glD, fun _ => [], hk, fun _ => 0⟩
def tbb : Tb := tbb0 fun _ => false
theorem tbb_ok {hk : Nat → Bool} : ∀ t d, (tbb0 hk).td t = some d → tdOf Tryd.prog t = some d := Pv.look_ok tdb_ok
theorem copy_enters : ∀ xs w, (callFunc 66 xs).run Tryd.prog w = .ok (.enter 66 xs) w := enters_of Tryd.func66 (by kernel_rfl) rfl
theorem fresh_pcb (x : PV) (R : List Blk) : PCB Tryd.prog envH 66 [.ptr 0 1 0] (.box 1 [.imm .np, x] (some 74) :: R) [] (.box 1 [.ptr 0 1 0, x] (some 74) :: R) :=
 PCB.copyFresh x R copy_enters fun b w h1 h2 h3 => Any.Builder_copyCheck_fresh { Tryd.lays165 with } Tryd.Builder_Extra_165.toX72 b w h1 h2 h3
theorem used_pcb (x : PV) (R : List Blk) : PCB Tryd.prog envH 66 [.ptr 0 1 0] (.box 1 [.ptr 0 1 0, x] (some 74) :: R) [] (.box 1 [.ptr 0 1 0, x] (some 74) :: R) :=
 PCB.copyUsed x R copy_enters fun b w h1 => Any.Builder_copyCheck_used { Tryd.lays165 with } Tryd.Builder_Extra_165.toX72 b w h1
theorem bytes_app (L : List UInt8) (s : Str) : bytesV L ++ strP s = bytesV (L ++ s.data.toList) := by simp [bytesV, strP]
theorem bytes_len (L : List UInt8) : (bytesV L).length = L.length := by simp [bytesV]
abbrev bld (a : PV) (L : List UInt8) (g : Nat) : List Blk := [.box 1 [a, .row 1 g] (some 74), .row 5 1 g (bytesV L)]
abbrev bytesI (L : List UInt8) : List IV := L.map fun b : UInt8 => IV.int .u8 (b.toNat : Int)
abbrev cbl (L : List UInt8) (g : Nat) : List CBk := [.box 1 [.ptr 0 1 0, .row 1 g] (some 74), .row 5 1 g (bytesI L)]
theorem write0_pcb (L : List UInt8) (s : Str) (h : L.length + s.size ≤ most) : PCB Tryd.prog envH 47 [.ptr 0 1 0, .imm (.str s)] (bld (.imm .np) L 1) [.imm (.int .i64 (s.size : Nat)), .any] (bld (.ptr 0 1 0) (L ++ s.data.toList) 2) := by
 have hF := fresh_pcb (.row 1 1) [.row 5 1 1 (bytesV L)]
 have hl := bytes_len L
 refine PCB.of_va (T := tbb) eqs_ok tbb_ok rfl mixed Tryd.func47 rfl rfl rfl (Nat.le_of_ble_eq_true rfl) rfl ?_; intro Γ C WK LP fin h0 hk0 hW hC hB hR hLP hfin
 (try (conv => whnf)); (repeat ((first | refine qT ?_ | refine qF ?_ | refine qO ?_ | (with_reducible intro z hz); (first | (replace hz := hz (by omega); subst hz) | subst hz)); (try (conv => whnf))))
 refine Imms.mk (L.map fun b : UInt8 => IV.int .u8 (b.toNat : Int)) rfl ?_
 (try (conv => whnf)); (repeat ((first | refine qT ?_ | refine qF ?_ | refine qO ?_ | (with_reducible intro z hz); (first | (replace hz := hz (by omega); subst hz) | subst hz)); (try (conv => whnf))))
 refine CallB.mk ([]) ([.box 1 [.ptr 0 1 0, .row 1 1] (some 74), .row 5 1 1 (L.map fun b : UInt8 => IV.int .u8 (b.toNat : Int))]) (hB _ _ _ _ _ (hF)) ?_
 (try (conv => whnf)); (repeat ((first | refine qT ?_ | refine qF ?_ | refine qO ?_ | (with_reducible intro z hz); (first | (replace hz := hz (by omega); subst hz) | subst hz)); (try (conv => whnf))))
 refine Owe.mk (by rw [show (List.map PV.imm (List.map (fun b : UInt8 => IV.int .u8 (b.toNat : Int)) L)).length = L.length from hl]; exact h) ?_
 (try (conv => whnf)); (repeat ((first | refine qT ?_ | refine qF ?_ | refine qO ?_ | (with_reducible intro z hz); (first | (replace hz := hz (by omega); subst hz) | subst hz)); (try (conv => whnf))))
 exact hfin _ ((WeakA.row 1 (bytesV (L ++ s.data.toList)) rfl (by exact bytes_app L s)).trans (qSL 2 rfl rfl))
theorem write1_pcb (L : List UInt8) (s : Str) (h : L.length + s.size ≤ most) : PCB Tryd.prog envH 47 [.ptr 0 1 0, .imm (.str s)] (bld (.ptr 0 1 0) L 1) [.imm (.int .i64 (s.size : Nat)), .any] (bld (.ptr 0 1 0) (L ++ s.data.toList) 2) := by
 have hF := used_pcb (.row 1 1) [.row 5 1 1 (bytesV L)]
 have hl := bytes_len L
 refine PCB.of_va (T := tbb) eqs_ok tbb_ok rfl mixed Tryd.func47 rfl rfl rfl (Nat.le_of_ble_eq_true rfl) rfl ?_; intro Γ C WK LP fin h0 hk0 hW hC hB hR hLP hfin
 (try (conv => whnf)); (repeat ((first | refine qT ?_ | refine qF ?_ | refine qO ?_ | (with_reducible intro z hz); (first | (replace hz := hz (by omega); subst hz) | subst hz)); (try (conv => whnf))))
 refine Imms.mk (L.map fun b : UInt8 => IV.int .u8 (b.toNat : Int)) rfl ?_
 (try (conv => whnf)); (repeat ((first | refine qT ?_ | refine qF ?_ | refine qO ?_ | (with_reducible intro z hz); (first | (replace hz := hz (by omega); subst hz) | subst hz)); (try (conv => whnf))))
 refine CallB.mk ([]) ([.box 1 [.ptr 0 1 0, .row 1 1] (some 74), .row 5 1 1 (L.map fun b : UInt8 => IV.int .u8 (b.toNat : Int))]) (hB _ _ _ _ _ (hF)) ?_
 (try (conv => whnf)); (repeat ((first | refine qT ?_ | refine qF ?_ | refine qO ?_ | (with_reducible intro z hz); (first | (replace hz := hz (by omega); subst hz) | subst hz)); (try (conv => whnf))))
 refine Owe.mk (by rw [show (List.map PV.imm (List.map (fun b : UInt8 => IV.int .u8 (b.toNat : Int)) L)).length = L.length from hl]; exact h) ?_
 (try (conv => whnf)); (repeat ((first | refine qT ?_ | refine qF ?_ | refine qO ?_ | (with_reducible intro z hz); (first | (replace hz := hz (by omega); subst hz) | subst hz)); (try (conv => whnf))))
 exact hfin _ ((WeakA.row 1 (bytesV (L ++ s.data.toList)) rfl (by exact bytes_app L s)).trans (qSL 2 rfl rfl))
theorem string_pcb (L : List UInt8) (h : 0 < L.length) : PCB Tryd.prog envH 49 [.ptr 0 1 0] (bld (.ptr 0 1 0) L 1) [.imm (.str ⟨L.toArray⟩)] [.box 1 [.ptr 0 1 0, .any] (some 74), .dead 2] := by
 have hl := bytes_len L
 refine PCB.of_va (T := tbb) eqs_ok tbb_ok rfl mixed Tryd.func49 rfl rfl rfl (Nat.le_of_ble_eq_true rfl) rfl ?_; intro Γ C WK LP fin h0 hk0 hW hC hB hR hLP hfin
 (try (conv => whnf)); (repeat ((first | refine qT ?_ | refine qF ?_ | refine qO ?_ | (with_reducible intro z hz); (first | (replace hz := hz (by omega); subst hz) | subst hz)); (try (conv => whnf))))
 refine Bytes.mk L (by simp [bytesV]) ?_
 intro s hs; subst hs
 (try (conv => whnf)); (repeat ((first | refine qT ?_ | refine qF ?_ | refine qO ?_ | (with_reducible intro z hz); (first | (replace hz := hz (by omega); subst hz) | subst hz)); (try (conv => whnf))))
 exact hfin _ ((WeakA.cells 0 (cs' := [.ptr 0 1 0, .any]) rfl (Wk.keep rfl (Wk.drop Wk.nil))).trans (qSL 2 rfl rfl))
end Go.Proofs.YtopohipcpomecaaDoor.Pd
