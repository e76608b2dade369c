/-
  The library's sort at IDs: the row holds them in order.
-/
import Derived.Shelf.SlSortCmp.NoneTotal
import Derived.Test.YtopohipcpomecaaDoorSrt
import Derived.Test.YtopohipcpomecaaDoorCmr
import Derived.Test.YtopohipcpomecaaDoorSol
import Derived.Test.YtopohipcpomecaaDoorWDk
namespace Go.Proofs.YtopohipcpomecaaDoor.Pd
open Go Go.Pv Go.RowKit Go.Proofs.YtopohipcpomecaaDoor.Pu Go.Proofs.YtopohipcpomecaaDoor.Pb
set_option linter.unusedSimpArgs false
open Go.Proofs.YtopohipcpomecaaDoor
open Go.Sort (SWO HoldsK grow)
open Go.Proofs (ltOf)
set_option linter.unusedSimpArgs false
def encT (p : Trip) : List Value := [.int .i64 p.x, .int .i64 p.y, .int .i64 p.z]
instance : Inhabited Trip := ⟨⟨0, 0, 0⟩⟩
def cfT (p q : Trip) : Int := if Lib.compareInt p.x q.x = 0 then (if Lib.compareInt p.y q.y = 0 then Lib.compareInt p.z q.z else Lib.compareInt p.y q.y) else Lib.compareInt p.x q.x
theorem lessT_iff (p q : Trip) : lessT p q = true ↔ p.x < q.x ∨ (p.x = q.x ∧ (p.y < q.y ∨ (p.y = q.y ∧ p.z < q.z))) := by
 unfold lessT
 by_cases h1 : p.x = q.x
 · rw [if_neg (by simp [h1])]
   by_cases h2 : p.y = q.y
   · rw [if_neg (by simp [h2])]
     simp [h1, h2]
   · rw [if_pos h2]
     simp [h1, h2]
 · rw [if_pos h1]
   simp [h1]
theorem lessT_no (p q : Trip) : lessT p q = false ↔ ¬ (p.x < q.x ∨ (p.x = q.x ∧ (p.y < q.y ∨ (p.y = q.y ∧ p.z < q.z)))) := by
 rw [← lessT_iff]; simp
theorem ltT (p q : Trip) : ltOf cfT p q = lessT p q := by
 have h : ∀ a b : Int, Lib.compareInt a b = if a < b then -1 else if b < a then 1 else 0 := fun a b => rfl
 rw [Bool.eq_iff_iff, lessT_iff]
 unfold ltOf cfT
 rw [h p.x, h p.y, h p.z]
 by_cases h1 : p.x < q.x
 · simp [h1]
 · by_cases h2 : q.x < p.x
   · have h3 : ¬ p.x = q.x := by omega
     simp [h1, h2, h3]
   · have h3 : p.x = q.x := by omega
     by_cases h4 : p.y < q.y
     · simp [h3, h4]
     · by_cases h5 : q.y < p.y
       · have h6 : ¬ p.y = q.y := by omega
         simp [h3, h4, h5, h6]
       · have h6 : p.y = q.y := by omega
         by_cases h7 : p.z < q.z
         · simp [h3, h6, h7]
         · by_cases h8 : q.z < p.z <;> simp [h3, h6, h7, h8]
theorem swoT : SWO (ltOf cfT) where
 irrefl x := by rw [ltT, lessT_no]; omega
 trans x y z h1 h2 := by rw [ltT, lessT_iff] at *; omega
 ntrans x y z h1 h2 := by rw [ltT, lessT_no] at *; omega
theorem totT (x y : Trip) (h1 : ltOf cfT x y = false) (h2 : ltOf cfT y x = false) : x = y := by
 rw [ltT, lessT_no] at *
 obtain ⟨a, b, c⟩ := x
 obtain ⟨d, e, f⟩ := y
 simp only at h1 h2
 have e1 : a = d := by omega
 have e2 : b = e := by omega
 have e3 : c = f := by omega
 rw [e1, e2, e3]
def srtT (L : List Trip) : List Trip := L.mergeSort fun x y => !(ltOf cfT y x)
theorem encT_ok : Enc encT 3 idv where
 len _ := rfl
 pos := by decide
 one x v hv := by simp [encT] at hv; rcases hv with rfl | rfl | rfl <;> rfl
 rep Q w x v := by
   unfold idv idl
   rw [RepI_agg]
   constructor
   · rintro ⟨vs, rfl, h⟩
     simp only [RepC, RepI] at h
     obtain ⟨_, _, rfl, _, rfl, _, _, rfl, _, rfl, _, _, rfl, _, rfl, rfl⟩ := h
     rfl
   · rintro rfl
     refine ⟨_, rfl, ?_⟩
     simp only [RepC, RepI, encT]
     exact ⟨_, _, rfl, rfl, rfl, _, _, rfl, rfl, rfl, _, _, rfl, rfl, rfl, rfl⟩
theorem aggT : ∀ w, (isAgg 26).run Tryd.prog w = .ok true w := fun _ => by kernel_rfl
theorem sizeT : ∀ w, (Go.sizeOf 26).run Tryd.prog w = .ok 3 w := fun _ => by kernel_rfl
abbrev FS : FuncId := 37
theorem sortT_pcb (L : List Trip) (hL : L.length ≤ 1000000) : PCB Tryd.prog envH FS [.row 0 1, .imm (.fn 38)] [.row 26 3 1 ((L.map idv).map .imm)] [] [.row 26 3 1 (((srtT L).map idv).map .imm)] := by
 refine sort_pcb encT_ok srtT (fun l => List.length_mergeSort l) (enters_of Tryd.func37 rfl rfl) (fun w blk cap d hH hb hd => ?_) (fun p cap w => ?_) L (by unfold most; omega)
 · have eg : ∀ args w, (callFunc 38 args).run Tryd.prog w = .ok (.enter 38 args) w := enters_of Tryd.func38 rfl rfl
   have hcon := AnyQ.slices_SortFunc_total Tryd.sortSpan 3 aggT sizeT encT (fun _ => rfl) (fun x v hv => by simp [encT] at hv; rcases hv with rfl | rfl | rfl <;> rfl) cfT swoT 38 #[] blk 0 cap d w eg (fun _ _ _ _ x y => closure_any x.x x.y x.z y.x y.y y.z _) hH hb (by unfold most at hd; omega) totT
   change Calls Tryd.prog 37 _ _ _ at hcon
   exact hcon
 · have hcon := AnyF.slices_SortFunc_none (P := Tryd.prog) (ρ := Tryd.sortSpan_ren) { Tryd.sortSpan with } p cap (.func (.func 38) #[] #[]) w
   change Calls Tryd.prog 37 _ _ _ at hcon
   exact hcon
end Go.Proofs.YtopohipcpomecaaDoor.Pd
