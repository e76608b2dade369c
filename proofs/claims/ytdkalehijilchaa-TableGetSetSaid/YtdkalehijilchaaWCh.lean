/-
  The reference's Wide, Text.
-/
import Derived.Test.YtdkalehijilchaaWCg
namespace Go.Proofs.Ytdkalehijilchaa.Pb
open Go Go.Pv Go.RowKit
set_option linter.unusedSimpArgs false
open Lab Lcs Go.Proofs.Ytdkalehijilchaa Go.Proofs.Ytdkalehijilchaa.Pu Go.Proofs.Ytdkalehijilchaa.Pt
set_option maxRecDepth 10000
set_option maxHeartbeats 8000000
def widesV (t : Ut) : List Nat := if validT t = true then wides t else []
def linesV (t : Ut) : List Str := if validT t = true then linesS t else []
theorem colC_of {t : Ut} {j : Nat} (hv : validT t = true) (hj : j < colsN t) : colC t (j : Int) = colL t j := by
 have hb : hasB t 0 (j : Int) = true := by
   unfold hasB rowsV colsV
   rw [if_pos hv, if_pos hv]
   obtain ⟨_, _, _, h0⟩ := valid_some hv
   simp only [Bool.and_eq_true, decide_eq_true_eq]
   omega
 unfold colC
 rw [if_pos hb, Int.toNat_natCast]
theorem cols_le {t : Ut} (h : Smal t) (hv : validT t = true) : colsN t ≤ 60 := by
 obtain ⟨r, hr, hc, _⟩ := valid_some hv
 rw [hc]
 exact (h.kid (List.mem_of_getElem? hr)).kids
def cellsS (ws : List Nat) (r : Ut) (k : Nat) : List Str := (List.range k).map (cellS ws r)
theorem cellsS_succ (ws : List Nat) (r : Ut) (k : Nat) : cellsS ws r (k + 1) = cellsS ws r k ++ [cellS ws r k] := by unfold cellsS; rw [List.range_succ, List.map_append]; rfl
theorem cellS_size {ws : List Nat} {r : Ut} {k : Nat} (hs : (say (cellW r k)).size ≤ 30300) (hw : ws.getD k 0 ≤ 30300) : (cellS ws r k).size ≤ 30300 := by
 unfold cellS
 split
 · rw [pad_size]; omega
 · exact hs
theorem cellsS_size {ws : List Nat} {r : Ut} {k : Nat} (hk : k ≤ 60) (hs : ∀ j, (say (cellW r j)).size ≤ 30300) (hw : ∀ j, ws.getD j 0 ≤ 30300) : (joinS bar (cellsS ws r k)).size ≤ 1818180 := by
 have h1 := joinS_size bar 30300 (cellsS ws r k) (fun x hx => by
   unfold cellsS at hx
   obtain ⟨j, _, rfl⟩ := List.mem_map.1 hx
   exact cellS_size (hs j) (hw j))
 have h2 : (cellsS ws r k).length = k := by unfold cellsS; rw [List.length_map, List.length_range]
 have h3 : bar.size = 3 := rfl
 rw [h2, h3] at h1
 have : (30300 + 3) * k ≤ (30300 + 3) * 60 := Nat.mul_le_mul_left _ hk
 omega
theorem wides_len (t : Ut) : (wides t).length = colsN t := by unfold wides; rw [List.length_map, List.length_range]
theorem wides_at {t : Ut} {k : Nat} (hk : k < colsN t) : (wides t)[k]? = some (maxL (colL t k)) := by
 unfold wides
 rw [List.getElem?_map, List.getElem?_range hk]
 rfl
theorem wides_le {t : Ut} (h : Smal t) (k : Nat) : (wides t).getD k 0 ≤ 30300 := by
 rw [List.getD_eq_getElem?_getD]
 cases hk : (wides t)[k]? with
 | none => exact Nat.zero_le _
 | some w =>
   unfold wides at hk
   rw [List.getElem?_map] at hk
   cases hr : (List.range (colsN t))[k]? with
   | none => rw [hr] at hk; cases hk
   | some j =>
     rw [hr] at hk
     have : w = maxL (colL t j) := (Option.some.inj hk).symm
     subst this
     refine maxL_le fun s hs => ?_
     unfold colL at hs
     obtain ⟨r, hr, rfl⟩ := List.mem_map.1 hs
     exact (cell_short h hr _).say
end Go.Proofs.Ytdkalehijilchaa.Pb
