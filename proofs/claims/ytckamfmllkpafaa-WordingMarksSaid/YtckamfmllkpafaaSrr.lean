/-
  The library's sort at references: the row holds them in order.
-/
import Derived.Shelf.SlSortCmp.NoneTotal
import Derived.Test.YtckamfmllkpafaaSrt
import Derived.Test.YtckamfmllkpafaaCmr
import Derived.Test.YtckamfmllkpafaaSol
import Derived.Test.YtckamfmllkpafaaWWv
namespace Go.Proofs.Ytckamfmllkpafaa.Pw
open Go Go.Pv Go.RowKit Go.Proofs.Ytckamfmllkpafaa.Pu Go.Proofs.Ytckamfmllkpafaa.Pb Go.Proofs.Ytckamfmllkpafaa
open Go.Sort (SWO HoldsK grow)
open Go.Proofs (ltOf)
set_option linter.unusedSimpArgs false
def encR (p : Rf) : List Value := [.int .i64 p.act, .int .i64 p.item]
instance : Inhabited Rf := ⟨⟨0, 0⟩⟩
def cfR (p q : Rf) : Int := if Lib.compareInt p.act q.act = 0 then Lib.compareInt p.item q.item else Lib.compareInt p.act q.act
theorem ltR (p q : Rf) : ltOf cfR p q = lessB p q := by
 unfold ltOf cfR lessB Lib.compareInt
 by_cases h1 : p.act < q.act
 · simp [h1]
 · by_cases h2 : q.act < p.act
   · have h3 : ¬ p.act = q.act := by omega
     simp [h1, h2, h3]
   · have h3 : p.act = q.act := by omega
     by_cases h4 : p.item < q.item
     · simp [h1, h2, h3, h4]
     · by_cases h5 : q.item < p.item <;> simp [h1, h2, h3, h4, h5]
theorem less_iff (p q : Rf) : lessB p q = true ↔ p.act < q.act ∨ (p.act = q.act ∧ p.item < q.item) := by
 unfold lessB
 simp
theorem less_no (p q : Rf) : lessB p q = false ↔ ¬ (p.act < q.act ∨ (p.act = q.act ∧ p.item < q.item)) := by
 rw [← less_iff]; simp
theorem swoR : SWO (ltOf cfR) where
 irrefl x := by rw [ltR, less_no]; omega
 trans x y z h1 h2 := by rw [ltR, less_iff] at *; omega
 ntrans x y z h1 h2 := by rw [ltR, less_no] at *; omega
theorem totR (x y : Rf) (h1 : ltOf cfR x y = false) (h2 : ltOf cfR y x = false) : x = y := by
 rw [ltR, less_no] at *
 obtain ⟨a, b⟩ := x
 obtain ⟨c, d⟩ := y
 simp only at h1 h2
 have e1 : a = c := by omega
 have e2 : b = d := by omega
 rw [e1, e2]
def srtR (L : List Rf) : List Rf := L.mergeSort fun x y => !(ltOf cfR y x)
theorem encR_ok : Enc encR 2 rfv where
 len _ := rfl
 pos := by decide
 one x v hv := by simp [encR] at hv; rcases hv with rfl | rfl <;> rfl
 rep Q w x v := by
   unfold rfv
   rw [RepI_agg]
   constructor
   · rintro ⟨vs, rfl, h⟩
     simp only [RepC, RepI] at h
     obtain ⟨_, _, rfl, _, rfl, _, _, rfl, _, rfl, rfl⟩ := h
     rfl
   · rintro rfl
     refine ⟨_, rfl, ?_⟩
     simp only [RepC, RepI, encR]
     exact ⟨_, _, rfl, rfl, rfl, _, _, rfl, rfl, rfl, rfl⟩
theorem aggR : ∀ w, (isAgg 63).run Try.prog w = .ok true w := fun _ => by kernel_rfl
theorem sizeR : ∀ w, (Go.sizeOf 63).run Try.prog w = .ok 2 w := fun _ => by kernel_rfl
theorem sortR_pcb (L : List Rf) (hL : L.length ≤ 1000000) : PCB Try.prog env0 32 [.row 0 1, .imm (.fn 33)] [.row 63 2 1 ((L.map rfv).map .imm)] [] [.row 63 2 1 (((srtR L).map rfv).map .imm)] := by
 refine sort_pcb encR_ok srtR (fun l => List.length_mergeSort l) (enters_of Try.func32 rfl rfl) (fun w blk cap d hH hb hd => ?_) (fun p cap w => ?_) L (by unfold most; omega)
 · have eg : ∀ args w, (callFunc 33 args).run Try.prog w = .ok (.enter 33 args) w := enters_of Try.func33 rfl rfl
   have hcon := AnyQ.slices_SortFunc_total Try.sortSpan 2 aggR sizeR encR (fun _ => rfl) (fun x v hv => by simp [encR] at hv; rcases hv with rfl | rfl <;> rfl) cfR swoR 33 #[] blk 0 cap d w eg (fun _ _ _ _ x y => closure_any x.act x.item y.act y.item _) hH hb (by unfold most at hd; omega) totR
   change Calls Try.prog 32 _ _ _ at hcon
   exact hcon
 · have hcon := AnyF.slices_SortFunc_none (P := Try.prog) (ρ := Try.sortSpan_ren) { Try.sortSpan with } p cap (.func (.func 33) #[] #[]) w
   change Calls Try.prog 32 _ _ _ at hcon
   exact hcon
end Go.Proofs.Ytckamfmllkpafaa.Pw
