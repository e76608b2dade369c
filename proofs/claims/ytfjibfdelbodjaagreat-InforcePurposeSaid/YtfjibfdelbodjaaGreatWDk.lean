/-
  Corpus: the law of order.
-/
import Derived.Test.YtfjibfdelbodjaaGreatGg
namespace Go.Proofs.YtfjibfdelbodjaaGreat.Po
open Go Go.Pv Go.RowKit
set_option linter.unusedSimpArgs false
open Lab Lcs Go.Proofs.YtfjibfdelbodjaaGreat Go.Proofs.YtfjibfdelbodjaaGreat.Pu
set_option maxRecDepth 10000
set_option maxHeartbeats 32000000
theorem bH.KP {l:List Gz} {m:Nat} (h:bH l m):PC Tryz.prog aM 60 [.sl 4 (l.map gzv)] [.sl 7 ((bn (allA l)).map acv)]:=by
 have hl:=h.len
 have hp:((lC l).acts.map Prod.snd).Perm (bn (allA l)):=by
  rw[mK]
  have:=eH (allA l) (allA l).length (Nat.le_refl _)
  unfold rgK at this
  rw[List.take_length]at this
  exact this.symm
 have h1:=hp.length_eq
 have h2:=lD (allA l) (allA l).length
 have h3:=mP l (fun g hg=>by have:=h.acts g hg;omega)
 rw[List.length_map]at h1
 rw[show bW (allA l) (allA l).length=bn (allA l) from rfl]at h2
 exact PS l (by omega) h.small h.fit (by omega)
theorem rZ (f:Int→Int→It→It) {n d:Int}:∀(l:List It) (k:Nat),(eT f n d k l).Pairwise fun a b=>dJ a b < 0
 |[],_=>List.Pairwise.nil
 |x::l,k=>by
  rw[eT,List.pairwise_cons]
  refine⟨fun e he=>?_,rZ f l (k+1)⟩
  obtain⟨h1,h2,h3⟩:=lJ f n d l (k+1) e he
  rw[CZ]
  simp only
  omega
theorem uN:∀{l:List Ac},l.Pairwise ltA→∀(g:Ac→List Ei),(∀a,(g a).Pairwise fun a b=>dJ a b < 0)→(∀a,∀e∈g a,e.act=a.num∧e.day=a.day)→(l.flatMap g).Pairwise fun a b=>dJ a b < 0
 |[],_,_,_,_=>List.Pairwise.nil
 |a::l,hs,g,hg,hk=>by
  rw[List.pairwise_cons]at hs
  rw[List.flatMap_cons,List.pairwise_append]
  refine⟨hg a,uN hs.2 g hg hk,fun x hx y hy=>?_⟩
  obtain⟨b,hb,hy⟩:=List.mem_flatMap.1 hy
  have h1:=hs.1 b hb
  have h2:=hk a x hx
  have h3:=hk b y hy
  unfold ltA at h1
  rw[CZ]
  omega
theorem CV (l:List Gz):(aP l).Pairwise fun a b=>dJ a b < 0:=by
 have hs:=gL (allA l) (allA l).length (Nat.le_refl _)
 unfold aP uH j6
 exact uN hs _ (fun a=>rZ _ a.items 0) (fun a e he=>by
  obtain⟨h1,h2,_⟩:=lJ _ a.num a.day a.items 0 e he
  exact⟨h1,h2⟩)
theorem LV {l:List Ei} (h:l.Pairwise fun a b=>dJ a b < 0) {k:Nat} {a b:Ei} (ha:l[k]?=some a) (hb:l[k+1]?=some b):dJ a b < 0:=by
 obtain⟨h1,rfl⟩:=List.getElem?_eq_some_iff.1 ha
 obtain⟨h2,rfl⟩:=List.getElem?_eq_some_iff.1 hb
 exact List.pairwise_iff_getElem.1 h k (k+1) h1 h2 (by omega)
theorem bH.finds {l:List Gz} {m:Nat} (h:bH l m) {e:Ei} (he:e∈Po.aP l):gV (Po.aP l) e.act e.item=some e:=by
 have hg:=lN h.fit
 have hp:=Ht l
 rw[ML fun x hx y hy=>LA hg (hp.subset hx) (hp.subset hy)]
 exact⟨he,rfl,rfl⟩
end Go.Proofs.YtfjibfdelbodjaaGreat.Po
