/-
  Corpus: the law of order.
-/
import Derived.Test.YtfjibfdelbodjaaGreatGg
namespace Go.Proofs.YtfjibfdelbodjaaGreat.Po
open Go Go.Pv Go.RowKit
set_option linter.unusedSimpArgs false
open Lab Lcs Go.Proofs.YtfjibfdelbodjaaGreat Go.Proofs.YtfjibfdelbodjaaGreat.Pu
set_option maxRecDepth 10000
set_option maxHeartbeats 32000000
theorem bO.Rh {l:List Gz} {m:Nat} (h:bO l m):PC Tryz.prog aM 60 [.sl 4 (l.map gzv)] [.sl 7 ((bn (allA l)).map acv)]:=by
 have hl:=h.len
 have hp:((lG l).acts.map Prod.snd).Perm (bn (allA l)):=by
  rw[nH]
  have:=eB (allA l) (allA l).length (Nat.le_refl _)
  unfold rgK at this
  rw[List.take_length]at this
  exact this.symm
 have h1:=hp.length_eq
 have h2:=lg (allA l) (allA l).length
 have h3:=mO l (fun g hg=>by have:=h.acts g hg;omega)
 rw[List.length_map]at h1
 rw[show bX (allA l) (allA l).length=bn (allA l) from rfl]at h2
 exact LZ l (by omega) h.small h.fit (by omega)
theorem bO.finds {l:List Gz} {m:Nat} (h:bO l m) {e:Ei} (he:e∈Po.aW l):UZ (Po.aW l) e.act e.item=some e:=by
 have hg:=nT h.fit
 have hp:=Uz l
 rw[UG fun x hx y hy=>UH hg (hp.subset hx) (hp.subset hy)]
 exact⟨he,rfl,rfl⟩
end Go.Proofs.YtfjibfdelbodjaaGreat.Po
