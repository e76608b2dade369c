/-
  Corpus: the library's sort at enacted items; an item by its reference; the enacted items.
-/
import Derived.Test.YtglkpmhamekpmaaSrt
import Derived.Shelf.SlSortCmp.NoneTotal
import Derived.Test.YtglkpmhamekpmaaWCk
namespace Go.Proofs.Ytglkpmhamekpmaa.Po
open Go Go.Pv Go.RowKit
set_option linter.unusedSimpArgs false
open Lab Lcs Go.Proofs.Ytglkpmhamekpmaa Go.Proofs.Ytglkpmhamekpmaa.Pu
open Go.Sort (SWO)
open Go.Proofs (ltOf)
set_option maxRecDepth 10000
set_option maxHeartbeats 32000000
theorem aggE : ∀ w, (isAgg 44).run Try.prog w = .ok true w := fun _ => by kernel_rfl
theorem sizeE : ∀ w, (Go.sizeOf 44).run Try.prog w = .ok 28 w := fun _ => by kernel_rfl
theorem sortEi_pcb (L S : List Ei) (hL : L.length ≤ 1000000000) (hS : ∀ l' : List Ei, l'.Perm L → l'.Pairwise (fun a b => ltOf legE b a = false) → l'.map eiv = S.map eiv) :
   PCB Try.prog env0 29 [.row 0 1, .imm (.fn 22)] [.row 44 28 1 ((L.map eiv).map .imm)] [] [.row 44 28 1 ((S.map eiv).map .imm)] :=
 sortV_pcb eiv (by decide) (fun x => ⟨_, rfl⟩) legE swoE (enters_of Try.func29 rfl rfl)
   (fun α _ enc hk h1 cfa hO blk cap d w hcmp hH hb hd => by
     have hcon := Go.Proofs.AnyQ.slices_SortFunc Try.sortEi 28 aggE sizeE enc hk h1 cfa hO 22 #[] blk 0 cap d w (enters_of Try.func22 rfl rfl) hcmp hH hb hd
     change Calls Try.prog 29 _ _ _ at hcon
     exact hcon)
   (fun p cap w => by
     have hcon := Go.Proofs.AnyF.slices_SortFunc_none (P := Try.prog) (ρ := Try.sortEi_ren) { Try.sortEi with } p cap (.func (.func 22) #[] #[]) w
     change Calls Try.prog 29 _ _ _ at hcon
     exact hcon)
   L S (by unfold most; exact hL) (fun x _ y _ => compareE_pc x y) hS
end Go.Proofs.Ytglkpmhamekpmaa.Po
