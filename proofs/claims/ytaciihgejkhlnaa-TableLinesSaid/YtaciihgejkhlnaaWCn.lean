/-
  How many bars a line has, and how long it is.
-/
import Derived.Test.YtaciihgejkhlnaaWCm
namespace Go.Proofs.Ytaciihgejkhlnaa.Pb
open Go Go.Pv Go.RowKit
set_option linter.unusedSimpArgs false
open Lab Lcs Go.Proofs.Ytaciihgejkhlnaa Go.Proofs.Ytaciihgejkhlnaa.Pu Go.Proofs.Ytaciihgejkhlnaa.Pt
set_option maxRecDepth 10000
def bars (s : Str) : Nat := s.data.toList.count 124
theorem bars_app (a b : Str) : bars (a ++ b) = bars a + bars b := by unfold bars; rw [app_list, List.count_append]
theorem bars_sp : bars sp = 0 := by decide
theorem bars_bar : bars bar = 1 := by decide
theorem bars_pad (s : Str) (n : Nat) : bars (pad s n) = bars s := by
 unfold pad
 rw [bars_app]
 unfold bars
 rw [mkB_list, List.count_replicate]
 rfl
theorem bars_zero {s : Str} (h : ∀ b ∈ s.data.toList, b ≠ 124) : bars s = 0 := List.count_eq_zero.2 fun e => h _ e rfl
theorem bars_say : ∀ l : List Wd, (∀ a ∈ l, bars a.text = 0) → bars (say l) = 0 := by
 intro l h
 have key : ∀ k, k ≤ l.length → bars (say (l.take k)) = 0 := by
   intro k
   induction k with
   | zero => intro _; rw [List.take_zero, say_nil]; decide
   | succ k ih =>
     intro hk
     have hx : l[k]? = some (l[k]'hk) := List.getElem?_eq_getElem hk
     rw [take_at hx]
     have ha := h _ (List.getElem_mem hk)
     by_cases h0 : l.take k = []
     · rw [h0]
       show bars (say [l[k]]) = 0
       rw [say_one, ha]
     · rw [say_snoc h0, bars_app, bars_app, ih (by omega), bars_sp, ha]
 have := key l.length (Nat.le_refl _)
 rwa [List.take_length] at this
def cleanT (t : Ut) : Prop := ∀ x ∈ t.kids, ∀ y ∈ x.kids, ∀ a ∈ y.words, ∀ b ∈ a.text.data.toList, b ≠ 124
theorem clean_cell {t x : Ut} (h : cleanT t) (hx : x ∈ t.kids) (j : Nat) : bars (say (cellW x j)) = 0 := by
 refine bars_say _ fun a ha => bars_zero ?_
 unfold cellW at ha
 cases hy : x.kids[j]? with
 | none => rw [hy] at ha; cases ha
 | some y =>
   rw [hy] at ha
   exact h x hx y (List.mem_of_getElem? hy) a ha
theorem bars_cell {t x : Ut} (h : cleanT t) (hx : x ∈ t.kids) (ws : List Nat) (j : Nat) : bars (cellS ws x j) = 0 := by
 unfold cellS
 split
 · rw [bars_pad]; exact clean_cell h hx j
 · exact clean_cell h hx j
theorem bars_cells {t x : Ut} (h : cleanT t) (hx : x ∈ t.kids) (ws : List Nat) : ∀ k, bars (joinS bar (cellsS ws x (k + 1))) = k
 | 0 => by
   rw [show cellsS ws x (0 + 1) = [cellS ws x 0] from rfl, joinS_one]
   exact bars_cell h hx ws 0
 | k + 1 => by
   rw [cellsS_succ, joinS_snoc (cellsS_ne (by omega)), bars_app, bars_app, bars_cells h hx ws k, bars_bar, bars_cell h hx ws]
def sumW (ws : List Nat) : Nat → Nat
 | 0 => 0
 | k + 1 => sumW ws k + ws.getD k 0
theorem sumW_le (ws : List Nat) (B : Nat) (h : ∀ j, ws.getD j 0 ≤ B) : ∀ k, sumW ws k ≤ B * k
 | 0 => Nat.zero_le _
 | k + 1 => by
   have := sumW_le ws B h k
   have := h k
   unfold sumW
   rw [Nat.mul_succ]
   omega
theorem cells_len (ws : List Nat) (x : Ut) (hw : ∀ k, (say (cellW x k)).size ≤ ws.getD k 0) : ∀ k, k < x.kids.length → (joinS bar (cellsS ws x (k + 1))).size = 3 * k + sumW ws k + (cellS ws x k).size
 | 0, _ => by
   rw [show cellsS ws x (0 + 1) = [cellS ws x 0] from rfl, joinS_one]
   unfold sumW
   omega
 | k + 1, hk => by
   have ih := cells_len ws x hw k (by omega)
   have hc : (cellS ws x k).size = ws.getD k 0 := by
     have := hw k
     unfold cellS
     rw [if_pos hk, pad_size]
     omega
   rw [cellsS_succ, joinS_snoc (cellsS_ne (by omega)), ByteArray.size_append, ByteArray.size_append, ih, hc]
   have : bar.size = 3 := rfl
   rw [this, sumW]
   omega
theorem line_facts {t x : Ut} (hv : validT t = true) (h : cleanT t) (hx : x ∈ t.kids) (m : Nat) (hm : colsN t = m + 1) : bars (lineS (wides t) x) = m ∧ 3 * m + sumW (wides t) m ≤ (lineS (wides t) x).size ∧ (lineS (wides t) x).size ≤ 3 * m + sumW (wides t) m + (wides t).getD m 0 := by
 have hl := valid_row hv hx
 have hle : ∀ k, (say (cellW x k)).size ≤ (wides t).getD k 0 := fun k => by
   by_cases hk : k < colsN t
   · rw [List.getD_eq_getElem?_getD, wides_at hk]
     refine mem_maxL ?_
     unfold colL
     exact List.mem_map.2 ⟨x, hx, rfl⟩
   · have : cellW x k = [] := by unfold cellW; rw [List.getElem?_eq_none (by omega)]; rfl
     rw [this, say_nil]
     exact Nat.zero_le _
 have hli : lineS (wides t) x = joinS bar (cellsS (wides t) x (m + 1)) := by unfold lineS cellsS; rw [hl, hm]
 have hs := cells_len (wides t) x hle m (by omega)
 have hc : (cellS (wides t) x m).size = (say (cellW x m)).size := by unfold cellS; rw [if_neg (by omega)]
 have := hle m
 rw [hli]
 refine ⟨bars_cells h hx _ m, ?_, ?_⟩ <;> omega
end Go.Proofs.Ytaciihgejkhlnaa.Pb
