/-
  Corpus: the law of order.
-/
import Derived.Test.YtglkpmhamekpmaaGreatGg
namespace Go.Proofs.YtglkpmhamekpmaaGreat.Po
open Go Go.Pv Go.RowKit
set_option linter.unusedSimpArgs false
open Lab Lcs Go.Proofs.YtglkpmhamekpmaaGreat Go.Proofs.YtglkpmhamekpmaaGreat.Pu
set_option maxRecDepth 10000
set_option maxHeartbeats 32000000
theorem Few30.acts' {l : List Gz} {m : Nat} (h : Few30 l m) : PC Tryz.prog env0 12 [.sl 4 (l.map gzv)] [.sl 7 ((actsR (allA l)).map acv)] := by
 have hl := h.len
 have hp : ((regO l).acts.map Prod.snd).Perm (actsR (allA l)) := by
   rw [regO_all]
   have := actsK_perm (allA l) (allA l).length (Nat.le_refl _)
   unfold rgK at this
   rw [List.take_length] at this
   exact this.symm
 have h1 := hp.length_eq
 have h2 := actsK_len (allA l) (allA l).length
 have h3 := allA_len l (fun g hg => by have := h.acts g hg; omega)
 rw [List.length_map] at h1
 rw [show actsK (allA l) (allA l).length = actsR (allA l) from rfl] at h2
 exact actsP_of l (by omega) h.small h.fit (by omega)
end Go.Proofs.YtglkpmhamekpmaaGreat.Po
