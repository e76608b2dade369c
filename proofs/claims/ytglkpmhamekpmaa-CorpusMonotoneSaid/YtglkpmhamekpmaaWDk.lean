/-
  Corpus: the law of order.
-/
import Derived.Test.YtglkpmhamekpmaaGg
namespace Go.Proofs.Ytglkpmhamekpmaa.Po
open Go Go.Pv Go.RowKit
set_option linter.unusedSimpArgs false
open Lab Lcs Go.Proofs.Ytglkpmhamekpmaa Go.Proofs.Ytglkpmhamekpmaa.Pu
set_option maxRecDepth 10000
set_option maxHeartbeats 32000000
theorem Few30.finds {l : List Gz} {m : Nat} (h : Few30 l m) {e : Ei} (he : e ∈ Po.deeds l) : findL (Po.deeds l) e.act e.item = some e := by
 have hg := good_reg h.fit
 have hp := deeds_perm l
 rw [findL_iff fun x hx y hy => flat_same hg (hp.subset hx) (hp.subset hy)]
 exact ⟨he, rfl, rfl⟩
end Go.Proofs.Ytglkpmhamekpmaa.Po
