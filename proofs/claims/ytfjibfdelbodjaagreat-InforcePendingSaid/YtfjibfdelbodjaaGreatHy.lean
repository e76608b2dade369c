/-
  The reference's Few, for gazettes. Gazettes that came in.
-/
import Derived.Test.YtfjibfdelbodjaaGreatHx
namespace Go.Proofs.YtfjibfdelbodjaaGreat.Po
open Go Go.Pv Go.RowKit
set_option linter.unusedSimpArgs false
open Lab Lcs Go.Proofs.YtfjibfdelbodjaaGreat Go.Proofs.YtfjibfdelbodjaaGreat.Pu
set_option maxRecDepth 10000
set_option maxHeartbeats 64000000
def gI (l:List Ac):Nat:=(l.map fun a=>a.items.length).sum
def F7 (g:Gz):Nat:=gI g.acts
def iA (l:List Gz):Nat:=(l.map F7).sum
def okA (a:Ac):Bool:=decide (a.title.size≤100∧a.se.size≤60)&&a.items.all fu
def okG (g:Gz):Bool:=decide (g.acts.length≤8∧g.prior.size≤60)&&g.acts.all okA
def CJ (l:List Gz) (m:Int):Bool:=decide (l.length≤8)&&(l.all okG&&decide ((iA l:Int)≤m))
def Tg (a:Ac):Prop:=a.title.size≤maxLen∧a.se.size≤maxLen∧a.items.length≤140737488355328∧∀x∈a.items,vR x
def Jz (g:Gz):Prop:=g.prior.size≤maxLen∧g.acts.length≤maxLen∧∀a∈g.acts,Tg a
theorem oD {α:Type} (f:α→Nat):∀(l:List α) (k:Nat),((l.take k).map f).sum≤(l.map f).sum
 |[],k=>by simp
 |a::l,0=>by simp
 |a::l,k+1=>by
  have:=oD f l k
  simp only[List.take_succ_cons,List.map_cons,List.sum_cons]
  omega
theorem ow {α:Type} {f:α→Nat} {l:List α} {k:Nat} {a:α} (hx:l[k]?=some a):((l.take (k+1)).map f).sum=((l.take k).map f).sum+f a:=by
 rw[take_at hx,List.map_append,List.sum_append]
 simp
theorem vD {α:Type} {f:α→Nat} {l:List α} {k:Nat} {a:α} (hx:l[k]?=some a):((l.take k).map f).sum+f a≤(l.map f).sum:=by
 rw[←ow hx]
 exact oD f l (k+1)
theorem RY {T:Tb} {n t:Nat} {i:IV} {s:AS} {fin:List IV→Prop} (hn:t < n) (h:eY s.A t=.imm i) (hf:fin [i]):Ey T n s [.tmp t] fin:=by
 unfold Ey
 rw[kr,I6,if_pos hn,h]
 exact hf
theorem Ns (l:List Gz) (m:Int) (hm0:0≤m) (hm:m≤1000) (hl:l.length≤maxLen) (hf:∀g∈l,Jz g):PC Tryz.prog aM 30 [.sl 4 (l.map gzv),.int .i64 m] [.bool (CJ l m)]:=by
 have hml:(l.map gzv).length=l.length:=List.length_map _
 unfold maxLen at hl
 by_cases h8:l.length≤8
 rotate_left
 ·have hz:CJ l m=false:=by unfold CJ;rw[decide_eq_false h8];rfl
  rw[hz]
  refine PC.aj (T:=tb0) ay aH rfl mixed Tryz.func30 rfl rfl (Nat.le_of_ble_eq_true rfl) ?_;intro Γ C WK LP fin h0 hW hC hB hR hLP hfin
  (try (conv=>whnf));(repeat ((first|refine qT ?_|refine qF ?_|refine qO ?_|(with_reducible intro z hz);(first|(replace hz:=hz (by omega);subst hz)|subst hz));(try (conv=>whnf))))
  exact hfin _ (aA.refl _)
 have hz0:CJ l m=(l.all okG&&decide ((iA l:Int)≤m)):=by unfold CJ;rw[decide_eq_true h8];rfl
 rw[hz0]
 refine PC.aj (T:=tb0) ay aH rfl mixed Tryz.func30 rfl rfl (Nat.le_of_ble_eq_true rfl) ?_;intro Γ C WK LP fin h0 hW hC hB hR hLP hfin
 (try (conv=>whnf));(repeat ((first|refine qT ?_|refine qF ?_|refine qO ?_|(with_reducible intro z hz);(first|(replace hz:=hz (by omega);subst hz)|subst hz));(try (conv=>whnf))))
 refine hLP _ _ _ Nat (fun k=>⟨[(0,.imm (.sl 4 (l.map gzv))),(1,.imm (.int .i64 m)),(5,.imm (.int .i64 (iA (l.take k):Nat))),(6,.imm (.int .i64 (k:Nat)))],[]⟩) (fun k=>k≤l.length∧(l.take k).all okG=true∧(iA (l.take k):Int)≤m) (fun k=>l.length - k) 0 ⟨Nat.zero_le _,rfl,by simpa[iA]using hm0⟩ ((qSL 0 rfl rfl (hE:=by (repeat ((conv=>whnf);first|exact trivial|refine And.intro (by first|exact av.any|exact av.eq (by with_reducible rfl) rfl|exact av.eq (congrArg (fun z=>PV.imm (IV.int IntKind.i64 z)) (by first|omega|(simp[iA];done)|(simp[iA];omega))) rfl|exact av.eq (by first|(simp[iA];done)|fail) rfl|exact av.eq rfl rfl|exact av.le rfl (ILe.nil _)) ?_))))) ?_
 rintro k ⟨hk,hpre,hn⟩
 have hho:=Nat.lt_or_ge k l.length
 cases hho with
 |inl hlt=>
  refine (?_:∀Q:Exit→AS→Prop,((l.all okG&&decide ((iA l:Int)≤m))=false→∀s':AS,eY s'.A 4=.imm (.bool false)→Q .ret s')→vcS _ _ _ _ _ _ _ (dV _ _ _ _ _ _ Q)) _ (fun hz s' h=>by
   rw[hz]at hfin
   exact RY (by decide) h (hfin _ (aA.refl _)))
  intro Q hRet
  clear hfin
  obtain⟨g,hg⟩:∃g,l[k]?=some g:=⟨l[k],List.getElem?_eq_getElem hlt⟩
  obtain⟨f1,f2,f3⟩:=hf g (List.mem_of_getElem? hg)
  have hag:(g.acts.map acv).length=g.acts.length:=List.length_map _
  have hst:iA (l.take (k+1))=iA (l.take k)+F7 g:=ow hg
  have hat:iA (l.take k)+F7 g≤iA l:=vD hg
  unfold maxLen at f1 f2
  by_cases hga:g.acts.length≤8
  rotate_left
  ·have hno:l.all okG=false:=jA hg (by unfold okG;rw[decide_eq_false (fun h=>hga h.1)];rfl)
   rw[hno,Bool.false_and]at hRet
   (try (conv=>whnf));(repeat ((first|refine qT ?_|refine qF ?_|refine qO ?_|(with_reducible intro z hz);(first|(replace hz:=hz (by omega);subst hz)|subst hz));(try (conv=>whnf))))
   refine Idx.mk k (gzv g) _ rfl (by simp[hg]) rfl ?_
   (try (conv=>whnf));(repeat ((first|refine qT ?_|refine qF ?_|refine qO ?_|(with_reducible intro z hz);(first|(replace hz:=hz (by omega);subst hz)|subst hz));(try (conv=>whnf))))
   exact hRet rfl _ rfl
  by_cases hgp:g.prior.size≤60
  rotate_left
  ·have hno:l.all okG=false:=jA hg (by unfold okG;rw[decide_eq_false (fun h=>hgp h.2)];rfl)
   rw[hno,Bool.false_and]at hRet
   (try (conv=>whnf));(repeat ((first|refine qT ?_|refine qF ?_|refine qO ?_|(with_reducible intro z hz);(first|(replace hz:=hz (by omega);subst hz)|subst hz));(try (conv=>whnf))))
   refine Idx.mk k (gzv g) _ rfl (by simp[hg]) rfl ?_
   (try (conv=>whnf));(repeat ((first|refine qT ?_|refine qF ?_|refine qO ?_|(with_reducible intro z hz);(first|(replace hz:=hz (by omega);subst hz)|subst hz));(try (conv=>whnf))))
   refine Idx.mk k (gzv g) _ rfl (by simp[hg]) rfl ?_
   (try (conv=>whnf));(repeat ((first|refine qT ?_|refine qF ?_|refine qO ?_|(with_reducible intro z hz);(first|(replace hz:=hz (by omega);subst hz)|subst hz));(try (conv=>whnf))))
   exact hRet rfl _ rfl
  have hok:okG g=g.acts.all okA:=by unfold okG;rw[decide_eq_true ⟨hga,hgp⟩];rfl
  generalize iA (l.take k)=N at *
  (try (conv=>whnf));(repeat ((first|refine qT ?_|refine qF ?_|refine qO ?_|(with_reducible intro z hz);(first|(replace hz:=hz (by omega);subst hz)|subst hz));(try (conv=>whnf))))
  refine Idx.mk k (gzv g) _ rfl (by simp[hg]) rfl ?_
  (try (conv=>whnf));(repeat ((first|refine qT ?_|refine qF ?_|refine qO ?_|(with_reducible intro z hz);(first|(replace hz:=hz (by omega);subst hz)|subst hz));(try (conv=>whnf))))
  refine Idx.mk k (gzv g) _ rfl (by simp[hg]) rfl ?_
  (try (conv=>whnf));(repeat ((first|refine qT ?_|refine qF ?_|refine qO ?_|(with_reducible intro z hz);(first|(replace hz:=hz (by omega);subst hz)|subst hz));(try (conv=>whnf))))
  refine hLP _ _ _ Nat (fun j=>⟨[(0,.imm (.sl 4 (l.map gzv))),(1,.imm (.int .i64 m)),(5,.imm (.int .i64 ((N+gI (g.acts.take j):Nat)))),(6,.imm (.int .i64 (k:Nat))),(7,.imm (.int .i64 (j:Nat)))],[]⟩) (fun j=>j≤g.acts.length∧(g.acts.take j).all okA=true∧((N+gI (g.acts.take j):Nat):Int)≤m) (fun j=>g.acts.length - j) 0 ⟨Nat.zero_le _,rfl,by simpa[gI]using hn⟩ ((qSL 0 rfl rfl (hE:=by (repeat ((conv=>whnf);first|exact trivial|refine And.intro (by first|exact av.any|exact av.eq (by with_reducible rfl) rfl|exact av.eq (congrArg (fun z=>PV.imm (IV.int IntKind.i64 z)) (by first|omega|(simp[gI];done)|(simp[gI];omega))) rfl|exact av.eq (by first|(simp[gI];done)|fail) rfl|exact av.eq rfl rfl|exact av.le rfl (ILe.nil _)) ?_))))) ?_
  rintro j ⟨hj,hpj,hnj⟩
  have hhj:=Nat.lt_or_ge j g.acts.length
  cases hhj with
  |inl hjl=>
   refine (?_:∀Q:Exit→AS→Prop,((l.all okG&&decide ((iA l:Int)≤m))=false→∀s':AS,eY s'.A 4=.imm (.bool false)→Q .ret s')→vcS _ _ _ _ _ _ _ (dV _ _ _ _ _ _ Q)) _ (fun hz s' h=>hRet hz s' h)
   clear hRet
   intro Q hRet
   obtain⟨a,ha⟩:∃a,g.acts[j]?=some a:=⟨g.acts[j],List.getElem?_eq_getElem hjl⟩
   obtain⟨a1,a2,a3,a4⟩:=f3 a (List.mem_of_getElem? ha)
   have hai:(a.items.map itv).length=a.items.length:=List.length_map _
   have hsj:gI (g.acts.take (j+1))=gI (g.acts.take j)+a.items.length:=ow (f:=fun a:Ac=>a.items.length) ha
   have htj:gI (g.acts.take j)+a.items.length≤F7 g:=vD (f:=fun a:Ac=>a.items.length) ha
   unfold maxLen at a1 a2
   have hgno:okA a=false→l.all okG=false:=fun h=>jA hg (by rw[hok];exact jA ha h)
   by_cases hbig:((N+gI (g.acts.take j)+a.items.length:Nat):Int)≤m
   rotate_left
   ·have hno:decide ((iA l:Int)≤m)=false:=decide_eq_false (by omega)
    rw[hno,Bool.and_false]at hRet
    generalize gI (g.acts.take j)=M at *
    (try (conv=>whnf));(repeat ((first|refine qT ?_|refine qF ?_|refine qO ?_|(with_reducible intro z hz);(first|(replace hz:=hz (by omega);subst hz)|subst hz));(try (conv=>whnf))))
    refine Idx.mk k (gzv g) _ rfl (by simp[hg]) rfl ?_
    (try (conv=>whnf));(repeat ((first|refine qT ?_|refine qF ?_|refine qO ?_|(with_reducible intro z hz);(first|(replace hz:=hz (by omega);subst hz)|subst hz));(try (conv=>whnf))))
    refine Idx.mk k (gzv g) _ rfl (by simp[hg]) rfl ?_
    (try (conv=>whnf));(repeat ((first|refine qT ?_|refine qF ?_|refine qO ?_|(with_reducible intro z hz);(first|(replace hz:=hz (by omega);subst hz)|subst hz));(try (conv=>whnf))))
    refine Idx.mk j (acv a) _ rfl (by simp[ha]) rfl ?_
    (try (conv=>whnf));(repeat ((first|refine qT ?_|refine qF ?_|refine qO ?_|(with_reducible intro z hz);(first|(replace hz:=hz (by omega);subst hz)|subst hz));(try (conv=>whnf))))
    exact hRet rfl _ rfl
   by_cases ht:a.title.size≤100
   rotate_left
   ·rw[hgno (by unfold okA;rw[decide_eq_false (fun h=>ht h.1)];rfl),Bool.false_and]at hRet
    generalize gI (g.acts.take j)=M at *
    (try (conv=>whnf));(repeat ((first|refine qT ?_|refine qF ?_|refine qO ?_|(with_reducible intro z hz);(first|(replace hz:=hz (by omega);subst hz)|subst hz));(try (conv=>whnf))))
    refine Idx.mk k (gzv g) _ rfl (by simp[hg]) rfl ?_
    (try (conv=>whnf));(repeat ((first|refine qT ?_|refine qF ?_|refine qO ?_|(with_reducible intro z hz);(first|(replace hz:=hz (by omega);subst hz)|subst hz));(try (conv=>whnf))))
    refine Idx.mk k (gzv g) _ rfl (by simp[hg]) rfl ?_
    (try (conv=>whnf));(repeat ((first|refine qT ?_|refine qF ?_|refine qO ?_|(with_reducible intro z hz);(first|(replace hz:=hz (by omega);subst hz)|subst hz));(try (conv=>whnf))))
    refine Idx.mk j (acv a) _ rfl (by simp[ha]) rfl ?_
    (try (conv=>whnf));(repeat ((first|refine qT ?_|refine qF ?_|refine qO ?_|(with_reducible intro z hz);(first|(replace hz:=hz (by omega);subst hz)|subst hz));(try (conv=>whnf))))
    exact hRet rfl _ rfl
   by_cases hse:a.se.size≤60
   rotate_left
   ·rw[hgno (by unfold okA;rw[decide_eq_false (fun h=>hse h.2)];rfl),Bool.false_and]at hRet
    generalize gI (g.acts.take j)=M at *
    (try (conv=>whnf));(repeat ((first|refine qT ?_|refine qF ?_|refine qO ?_|(with_reducible intro z hz);(first|(replace hz:=hz (by omega);subst hz)|subst hz));(try (conv=>whnf))))
    refine Idx.mk k (gzv g) _ rfl (by simp[hg]) rfl ?_
    (try (conv=>whnf));(repeat ((first|refine qT ?_|refine qF ?_|refine qO ?_|(with_reducible intro z hz);(first|(replace hz:=hz (by omega);subst hz)|subst hz));(try (conv=>whnf))))
    refine Idx.mk k (gzv g) _ rfl (by simp[hg]) rfl ?_
    (try (conv=>whnf));(repeat ((first|refine qT ?_|refine qF ?_|refine qO ?_|(with_reducible intro z hz);(first|(replace hz:=hz (by omega);subst hz)|subst hz));(try (conv=>whnf))))
    refine Idx.mk j (acv a) _ rfl (by simp[ha]) rfl ?_
    (try (conv=>whnf));(repeat ((first|refine qT ?_|refine qF ?_|refine qO ?_|(with_reducible intro z hz);(first|(replace hz:=hz (by omega);subst hz)|subst hz));(try (conv=>whnf))))
    exact hRet rfl _ rfl
   have hoa:okA a=a.items.all fu:=by unfold okA;rw[decide_eq_true ⟨ht,hse⟩];rfl
   generalize gI (g.acts.take j)=M at *
   (try (conv=>whnf));(repeat ((first|refine qT ?_|refine qF ?_|refine qO ?_|(with_reducible intro z hz);(first|(replace hz:=hz (by omega);subst hz)|subst hz));(try (conv=>whnf))))
   refine Idx.mk k (gzv g) _ rfl (by simp[hg]) rfl ?_
   (try (conv=>whnf));(repeat ((first|refine qT ?_|refine qF ?_|refine qO ?_|(with_reducible intro z hz);(first|(replace hz:=hz (by omega);subst hz)|subst hz));(try (conv=>whnf))))
   refine Idx.mk k (gzv g) _ rfl (by simp[hg]) rfl ?_
   (try (conv=>whnf));(repeat ((first|refine qT ?_|refine qF ?_|refine qO ?_|(with_reducible intro z hz);(first|(replace hz:=hz (by omega);subst hz)|subst hz));(try (conv=>whnf))))
   refine Idx.mk j (acv a) _ rfl (by simp[ha]) rfl ?_
   (try (conv=>whnf));(repeat ((first|refine qT ?_|refine qF ?_|refine qO ?_|(with_reducible intro z hz);(first|(replace hz:=hz (by omega);subst hz)|subst hz));(try (conv=>whnf))))
   refine hLP _ _ _ Nat (fun i=>⟨[(0,.imm (.sl 4 (l.map gzv))),(1,.imm (.int .i64 m)),(5,.imm (.int .i64 ((N+(M+a.items.length):Nat)))),(6,.imm (.int .i64 (k:Nat))),(7,.imm (.int .i64 (j:Nat))),(8,.ptr 0 1 0),(9,.imm (.int .i64 (i:Nat)))],[bxA a]⟩) (fun i=>i≤a.items.length∧(a.items.take i).all fu=true) (fun i=>a.items.length - i) 0 ⟨Nat.zero_le _,rfl⟩ ((qSL 1 rfl rfl)) ?_
   rintro i ⟨hi,hpi⟩
   have hhi:=Nat.lt_or_ge i a.items.length
   cases hhi with
   |inl hil=>
    refine (?_:∀Q:Exit→AS→Prop,((l.all okG&&decide ((iA l:Int)≤m))=false→∀s':AS,eY s'.A 4=.imm (.bool false)→Q .ret s')→vcS _ _ _ _ _ _ _ (dV _ _ _ _ _ _ Q)) _ (fun hz s' h=>hRet hz s' h)
    clear hRet
    intro Q hRet
    obtain⟨x,hx⟩:∃x,a.items[i]?=some x:=⟨a.items[i],List.getElem?_eq_getElem hil⟩
    have hF:=OT x (a4 x (List.mem_of_getElem? hx))
    rw[aR x]at hF
    cases hfx:fu x with
    |true=>
     rw[hfx]at hF
     (try (conv=>whnf));(repeat ((first|refine qT ?_|refine qF ?_|refine qO ?_|(with_reducible intro z hz);(first|(replace hz:=hz (by omega);subst hz)|subst hz));(try (conv=>whnf))))
     refine Idx.mk i (itv x) _ rfl (by simp[hx]) (by rw[aR x]) ?_
     (try (conv=>whnf));(repeat ((first|refine qT ?_|refine qF ?_|refine qO ?_|(with_reducible intro z hz);(first|(replace hz:=hz (by omega);subst hz)|subst hz)|(refine ah.mk _ (hC _ _ _ (PCw.of hF)) (fun js hjs=>?_);subst hjs));(try (conv=>whnf))))
     exact⟨i+1,⟨by omega,gy hx hpi hfx⟩,by dsimp only;omega,(qSL 1 rfl rfl)⟩
    |false=>
     rw[hfx]at hF
     rw[hgno (by rw[hoa];exact jA hx hfx),Bool.false_and]at hRet
     (try (conv=>whnf));(repeat ((first|refine qT ?_|refine qF ?_|refine qO ?_|(with_reducible intro z hz);(first|(replace hz:=hz (by omega);subst hz)|subst hz));(try (conv=>whnf))))
     refine Idx.mk i (itv x) _ rfl (by simp[hx]) (by rw[aR x]) ?_
     (try (conv=>whnf));(repeat ((first|refine qT ?_|refine qF ?_|refine qO ?_|(with_reducible intro z hz);(first|(replace hz:=hz (by omega);subst hz)|subst hz)|(refine ah.mk _ (hC _ _ _ (PCw.of hF)) (fun js hjs=>?_);subst hjs));(try (conv=>whnf))))
     exact hRet rfl _ rfl
   |inr hig=>
    obtain rfl:i=a.items.length:=by omega
    rw[List.take_length]at hpi
    (try (conv=>whnf));(repeat ((first|refine qT ?_|refine qF ?_|refine qO ?_|(with_reducible intro z hz);(first|(replace hz:=hz (by omega);subst hz)|subst hz));(try (conv=>whnf))))
    exact⟨j+1,⟨by omega,gy ha hpj (by rw[hoa];exact hpi),by rw[hsj];omega⟩,by dsimp only;omega,by
     dsimp only[]
     rw[hsj]
     exact (qSL 0 rfl rfl)⟩
  |inr hjg=>
   obtain rfl:j=g.acts.length:=by omega
   rw[List.take_length]at hpj hnj
   rw[List.take_length]
   have hgn:gI g.acts=F7 g:=rfl
   rw[hgn]at hnj ⊢
   (try (conv=>whnf));(repeat ((first|refine qT ?_|refine qF ?_|refine qO ?_|(with_reducible intro z hz);(first|(replace hz:=hz (by omega);subst hz)|subst hz));(try (conv=>whnf))))
   refine Idx.mk k (gzv g) _ rfl (by simp[hg]) rfl ?_
   (try (conv=>whnf));(repeat ((first|refine qT ?_|refine qF ?_|refine qO ?_|(with_reducible intro z hz);(first|(replace hz:=hz (by omega);subst hz)|subst hz));(try (conv=>whnf))))
   exact⟨k+1,⟨by omega,gy hg hpre (by rw[hok];exact hpj),by rw[hst];exact hnj⟩,by dsimp only;omega,by
    dsimp only[]
    rw[hst]
    exact (qSL 0 rfl rfl)⟩
 |inr hge=>
  obtain rfl:k=l.length:=by omega
  rw[List.take_length]at hpre hn
  rw[hpre,decide_eq_true hn]at hfin
  (try (conv=>whnf));(repeat ((first|refine qT ?_|refine qF ?_|refine qO ?_|(with_reducible intro z hz);(first|(replace hz:=hz (by omega);subst hz)|subst hz));(try (conv=>whnf))))
  exact hfin _ (aA.refl _)
end Go.Proofs.YtfjibfdelbodjaaGreat.Po
namespace Go.Proofs.YtfjibfdelbodjaaGreat.Po
open Go Go.Pv Go.RowKit
set_option linter.unusedSimpArgs false
open Lab Lcs Go.Proofs.YtfjibfdelbodjaaGreat Go.Proofs.YtfjibfdelbodjaaGreat.Pu
set_option maxRecDepth 100000
theorem MR:nN Tryz.prog 213=true:=by kernel_rfl
theorem Pj:nN Tryz.prog 39=true:=by kernel_rfl
theorem R8:Tryz.prog.cellsOf 213=4:=by kernel_rfl
theorem RU:Tryz.prog.cellsOf 39=8:=by kernel_rfl
theorem Jc {z:Int} (hw:(Lit.int .i64 z).wf=true):inI z:=by simpa[inI,Lit.wf,IntKind.min,IntKind.max,IntKind.signed,IntKind.bits]using hw
theorem FQ {is:List IV} {t:TypeId} {fs:Array Field} (hu:Tryz.prog.underlying t=some (.struct fs)) (hf:fs.toList.map Field.type=[3,3,3]) (h:OkC Tryz.prog t is):∃x:nJ,is=idl x∧x.ok:=by
 obtain⟨parts,rfl,hl,hp⟩:=h.fQ hu
 have hs:fs.size=3:=by have:=congrArg List.length hf;simpa using this
 rw[hs]at hl
 have hty:∀i,i < 3→∃f,fs[i]?=some f∧f.type=3:=by
  intro i hi
  have h1:=congrArg (·[i]?) hf
  simp only[List.getElem?_map,Array.getElem?_toList]at h1
  cases hfi:fs[i]? with
  |none=>rw[Array.getElem?_eq_none_iff]at hfi;omega
  |some f=>
   rw[hfi]at h1
   refine⟨f,rfl,?_⟩
   match i,hi with
   |0,_=>simpa using h1
   |1,_=>simpa using h1
   |2,_=>simpa using h1
 match parts,hl with
 |[p0,p1,p2],_=>
  obtain⟨f0,e0,t0⟩:=hty 0 (by decide)
  obtain⟨f1,e1,t1⟩:=hty 1 (by decide)
  obtain⟨f2,e2,t2⟩:=hty 2 (by decide)
  have h0:=hp 0 f0 p0 e0 rfl
  have h1:=hp 1 f1 p1 e1 rfl
  have h2:=hp 2 f2 p2 e2 rfl
  rw[t0]at h0
  rw[t1]at h1
  rw[t2]at h2
  obtain⟨z0,rfl,g0⟩:=h0.bT Tryz.underlying3
  obtain⟨z1,rfl,g1⟩:=h1.bT Tryz.underlying3
  obtain⟨z2,rfl,g2⟩:=h2.bT Tryz.underlying3
  exact⟨⟨z0,z1,z2⟩,rfl,Jc g0,Jc g1,Jc g2⟩
theorem Tn {is:List IV} (h:OkC Tryz.prog 35 is):∃x:nJ,is=idl x∧x.ok:=FQ Tryz.underlying35 rfl h
theorem PI {is:List IV} (h:OkC Tryz.prog 211 is):∃x:nJ,is=idl x∧x.ok:=FQ Tryz.underlying211 rfl h
def Mf (a:Wd):Prop:=a.text.size≤maxLen∧a.mark.ok
theorem PN {is:List IV} (h:OkC Tryz.prog 213 is):∃a:Wd,IV.agg is=wdv a∧Mf a:=by
 obtain⟨parts,rfl,hl,hp⟩:=h.fQ Tryz.underlying213
 match parts,hl with
 |[p0,p1],_=>
  obtain⟨s,rfl,hs⟩:=(hp 0 _ _ rfl rfl).fF Tryz.underlying9
  obtain⟨t,rfl,ht⟩:=PI (hp 1 _ _ rfl rfl)
  exact⟨⟨s,t⟩,rfl,hs,ht⟩
theorem Em {is:List IV} (h:OkC Tryz.prog 36 is):∃L:List Wd,is=[.sl 4 (L.map wdv)]∧L.length≤maxLen∧∀a∈L,Mf a:=by
 obtain⟨css,rfl,h2,h3⟩:=h.lC Tryz.underlying36
 obtain⟨L,h4,h5,h6⟩:=kT (f:=wdv) (ok:=Mf) (fun cs hcs=>by rw[MR];exact PN hcs) css h3
 exact⟨L,by rw[R8,h4],by omega,h6⟩
def R4 (x:Ut):Prop:=x.id.ok∧inI x.kind∧x.label.size≤maxLen∧x.head.length≤maxLen∧x.words.length≤maxLen∧x.kids.length≤maxLen∧(∀a∈x.head,Mf a)∧∀a∈x.words,Mf a
def Fit (u:Ut):Prop:=∀x∈u.all,R4 x
theorem Fit.self {u:Ut} (h:Fit u):R4 u:=h u (by rw[Ut.all_eq];exact List.mem_cons_self)
theorem Fit.kid {u k:Ut} (h:Fit u) (hk:k∈u.kids):Fit k:=fun x hx=>h x (by
 rw[Ut.all_eq]
 refine List.mem_cons_of_mem _ ?_
 clear h
 generalize u.kids=l at hk
 induction l with
 |nil=>cases hk
 |cons a l ih=>
  unfold Ut.qB
  rcases List.mem_cons.1 hk with rfl|hk
  ·exact List.mem_append_left _ hx
  ·exact List.mem_append_right _ (ih hk))
theorem Er:∀{l:List Ut},(∀u∈l,Fit u)→∀x∈Ut.qB l,R4 x
 |[],_,x,hx=>by simp[Ut.qB]at hx
 |a::l,h,x,hx=>by
  unfold Ut.qB at hx
  rcases List.mem_append.1 hx with hx|hx
  ·exact h a List.mem_cons_self x hx
  ·exact Er (fun u hu=>h u (List.mem_cons_of_mem _ hu)) x hx
theorem Ow {t:TypeId} {is:List IV} (h:OkC Tryz.prog t is):(t=39→∃u:Ut,IV.agg is=uv u∧Fit u)∧(t=37→∃L:List Ut,is=[.sl 8 (L.map uv)]∧L.length≤maxLen∧∀u∈L,Fit u):=by
 induction h with
 |int hu _=>exact⟨fun e=>(by subst e;rw[Tryz.underlying39]at hu;cases hu),fun e=>by subst e;rw[Tryz.underlying37]at hu;cases hu⟩
 |str hu _=>exact⟨fun e=>(by subst e;rw[Tryz.underlying39]at hu;cases hu),fun e=>by subst e;rw[Tryz.underlying37]at hu;cases hu⟩
 |bool hu=>exact⟨fun e=>(by subst e;rw[Tryz.underlying39]at hu;cases hu),fun e=>by subst e;rw[Tryz.underlying37]at hu;cases hu⟩
 |strct parts hu hl hp ih=>
  refine⟨fun e=>?_,fun e=>by subst e;rw[Tryz.underlying37]at hu;cases hu⟩
  subst e
  rw[Tryz.underlying39]at hu
  injection hu with hu
  injection hu with hu
  subst hu
  match parts,hl with
  |[p0,p1,p2,p3,p4,p5],_=>
   obtain⟨i,rfl,hi⟩:=Tn (hp 0 _ _ rfl rfl)
   obtain⟨k,rfl,hk⟩:=(hp 1 _ _ rfl rfl).bT Tryz.underlying3
   obtain⟨s,rfl,hs⟩:=(hp 2 _ _ rfl rfl).fF Tryz.underlying9
   obtain⟨hd,rfl,hh1,hh2⟩:=Em (hp 3 _ _ rfl rfl)
   obtain⟨wd,rfl,hw1,hw2⟩:=Em (hp 4 _ _ rfl rfl)
   obtain⟨ks,rfl,hk1,hk2⟩:=(ih 5 _ _ rfl rfl).2 rfl
   refine⟨.mk i k s hd wd ks,by rw[Rf];rfl,fun x hx=>?_⟩
   rw[all_mk]at hx
   rcases List.mem_cons.1 hx with rfl|hx
   ·exact⟨hi,Jc hk,hs,hh1,hw1,hk1,hh2,hw2⟩
   ·exact Er hk2 x hx
 |slice css hu h2 h3 ih=>
  refine⟨fun e=>(by subst e;rw[Tryz.underlying39]at hu;cases hu),fun e=>?_⟩
  subst e
  rw[Tryz.underlying37]at hu
  injection hu with hu
  injection hu with hu
  subst hu
  obtain⟨L,h4,h5,h6⟩:∃L:List Ut,css.map (pO (nN Tryz.prog 39))=L.map uv∧L.length=css.length∧∀u∈L,Fit u:=by
   clear h2
   induction css with
   |nil=>exact⟨[],rfl,rfl,fun _ h=>by cases h⟩
   |cons cs l ih2=>
    obtain⟨u,g1,g2⟩:=(ih cs List.mem_cons_self).1 rfl
    obtain⟨L,g3,g4,g5⟩:=ih2 (fun c hc=>h3 c (List.mem_cons_of_mem _ hc)) (fun c hc=>ih c (List.mem_cons_of_mem _ hc))
    refine⟨u::L,?_,by simp[g4],fun x hx=>?_⟩
    ·rw[List.map_cons,List.map_cons,g3,←g1,Pj]
     rfl
    ·rcases List.mem_cons.1 hx with rfl|hx
     ·exact g2
     ·exact g5 x hx
  exact⟨L,by rw[RU,h4],by omega,h6⟩
theorem Fit.fits {u:Ut} (h:Fit u):Fits u:=fun x hx=>by
 obtain⟨_,_,_,h1,h2,h3,_⟩:=h x hx
 exact⟨h1,h2,h3⟩
theorem NU:nN Tryz.prog 119=true:=by kernel_rfl
theorem RD:Tryz.prog.cellsOf 119=2:=by kernel_rfl
theorem PL {is:List IV} (h:OkC Tryz.prog 119 is):∃x:Stp,is=[.int .i64 x.kind,.str x.label]∧x.label.size≤maxLen:=by
 obtain⟨parts,rfl,hl,hp⟩:=h.fQ Tryz.underlying119
 match parts,hl with
 |[p0,p1],_=>
  obtain⟨k,rfl,_⟩:=(hp 0 _ _ rfl rfl).bT Tryz.underlying3
  obtain⟨s,rfl,hs⟩:=(hp 1 _ _ rfl rfl).fF Tryz.underlying9
  exact⟨⟨k,s⟩,rfl,hs⟩
theorem Qx:nN Tryz.prog 9=false:=by kernel_rfl
theorem NM:nN Tryz.prog 45=true:=by kernel_rfl
theorem Tz:Tryz.prog.cellsOf 9=1:=by kernel_rfl
theorem Ry:Tryz.prog.cellsOf 45=25:=by kernel_rfl
theorem EX {is:List IV} (h:OkC Tryz.prog 33 is):∃L:List Stp,is=[.sl 2 (L.map spv)]∧L.length≤maxLen:=by
 obtain⟨css,rfl,h2,h3⟩:=h.lC Tryz.underlying33
 obtain⟨L,h4,h5,_⟩:=kT (f:=spv) (ok:=fun _=>True) (fun cs hcs=>by
  obtain⟨x,rfl,hx⟩:=PL hcs
  exact⟨x,by rw[NU];rfl,trivial⟩) css h3
 exact⟨L,by rw[RD,h4],by omega⟩
theorem JK {is:List IV} (h:OkC Tryz.prog 40 is):∃L:List Str,is=[.sl 1 (L.map IV.str)]∧L.length≤maxLen:=by
 obtain⟨css,rfl,h2,h3⟩:=h.lC Tryz.underlying40
 obtain⟨L,h4,h5,_⟩:=kT (f:=IV.str) (ok:=fun _=>True) (fun cs hcs=>by
  obtain⟨x,rfl,hx⟩:=hcs.fF Tryz.underlying9
  exact⟨x,by rw[Qx];rfl,trivial⟩) css h3
 exact⟨L,by rw[Tz,h4],by omega⟩
theorem LK {is:List IV} (h:OkC Tryz.prog 42 is):∃(k d:Int) (e:Str),is=[.int .i64 k,.int .i64 d,.str e]:=by
 obtain⟨parts,rfl,hl,hp⟩:=h.fQ Tryz.underlying42
 match parts,hl with
 |[p0,p1,p2],_=>
  obtain⟨k,rfl,_⟩:=(hp 0 _ _ rfl rfl).bT Tryz.underlying3
  obtain⟨d,rfl,_⟩:=(hp 1 _ _ rfl rfl).bT Tryz.underlying3
  obtain⟨e,rfl,_⟩:=(hp 2 _ _ rfl rfl).fF Tryz.underlying9
  exact⟨k,d,e,rfl⟩
theorem K8 {t:TypeId} {is:List IV} (h:OkC Tryz.prog t is):(t=45→∃x:It,IV.agg is=itv x∧vR x)∧(t=43→∃L:List It,is=[.sl 25 (L.map itv)]∧L.length≤maxLen∧∀x∈L,vR x):=by
 induction h with
 |int hu _=>exact⟨fun e=>(by subst e;rw[Tryz.underlying45]at hu;cases hu),fun e=>by subst e;rw[Tryz.underlying43]at hu;cases hu⟩
 |str hu _=>exact⟨fun e=>(by subst e;rw[Tryz.underlying45]at hu;cases hu),fun e=>by subst e;rw[Tryz.underlying43]at hu;cases hu⟩
 |bool hu=>exact⟨fun e=>(by subst e;rw[Tryz.underlying45]at hu;cases hu),fun e=>by subst e;rw[Tryz.underlying43]at hu;cases hu⟩
 |strct parts hu hl hp ih=>
  refine⟨fun e=>?_,fun e=>by subst e;rw[Tryz.underlying43]at hu;cases hu⟩
  subst e
  rw[Tryz.underlying45]at hu
  injection hu with hu
  injection hu with hu
  subst hu
  match parts,hl with
  |[p0,p1,p2,p3,p4,p5,p6,p7,p8,p9,p10,p11,p12,p13,p14,p15],_=>
   obtain⟨kind,rfl,_⟩:=(hp 0 _ _ rfl rfl).bT Tryz.underlying3
   obtain⟨p,rfl,hpl⟩:=EX (hp 1 _ _ rfl rfl)
   obtain⟨q,rfl,hql⟩:=EX (hp 2 _ _ rfl rfl)
   obtain⟨z,rfl,_⟩:=(hp 3 _ _ rfl rfl).bT Tryz.underlying3
   obtain⟨nth,rfl,_⟩:=(hp 4 _ _ rfl rfl).bT Tryz.underlying3
   obtain⟨u,hue,huf⟩:=(Ow (hp 5 _ _ rfl rfl)).1 rfl
   obtain⟨old,rfl,hol⟩:=JK (hp 6 _ _ rfl rfl)
   obtain⟨new,rfl,hnl⟩:=JK (hp 7 _ _ rfl rfl)
   obtain⟨lb,rfl,_⟩:=(hp 8 _ _ rfl rfl).fF Tryz.underlying9
   obtain⟨fr,rfl,_⟩:=(hp 9 _ _ rfl rfl).fF Tryz.underlying9
   obtain⟨sk,sd,se,rfl⟩:=LK (hp 10 _ _ rfl rfl)
   obtain⟨a,rfl,_⟩:=(hp 11 _ _ rfl rfl).bT Tryz.underlying3
   obtain⟨i,rfl,_⟩:=(hp 12 _ _ rfl rfl).bT Tryz.underlying3
   obtain⟨d,rfl,_⟩:=(hp 13 _ _ rfl rfl).bT Tryz.underlying3
   obtain⟨ev,rfl,_⟩:=(hp 14 _ _ rfl rfl).fF Tryz.underlying9
   obtain⟨bys,rfl,hbl,hbf⟩:=(ih 15 _ _ rfl rfl).2 rfl
   rw[fO]at hue
   injection hue with hue
   subst hue
   refine⟨.mk kind p q z nth u old new lb fr sk sd se a i d ev bys,by rw[aR];rfl,.mk _ huf.fits ⟨hpl,hql,hol,hnl,hbl⟩ hbf⟩
 |slice css hu h2 h3 ih=>
  refine⟨fun e=>(by subst e;rw[Tryz.underlying45]at hu;cases hu),fun e=>?_⟩
  subst e
  rw[Tryz.underlying43]at hu
  injection hu with hu
  injection hu with hu
  subst hu
  obtain⟨L,h4,h5,h6⟩:∃L:List It,css.map (pO (nN Tryz.prog 45))=L.map itv∧L.length=css.length∧∀u∈L,vR u:=by
   clear h2
   induction css with
   |nil=>exact⟨[],rfl,rfl,fun _ h=>by cases h⟩
   |cons cs l ih2=>
    obtain⟨u,g1,g2⟩:=(ih cs List.mem_cons_self).1 rfl
    obtain⟨L,g3,g4,g5⟩:=ih2 (fun c hc=>h3 c (List.mem_cons_of_mem _ hc)) (fun c hc=>ih c (List.mem_cons_of_mem _ hc))
    refine⟨u::L,?_,by simp[g4],fun x hx=>?_⟩
    ·rw[List.map_cons,List.map_cons,g3,←g1,NM]
     rfl
    ·rcases List.mem_cons.1 hx with rfl|hx
     ·exact g2
     ·exact g5 x hx
  exact⟨L,by rw[Ry,h4],by omega,h6⟩
theorem P9:nN Tryz.prog 70=true:=by kernel_rfl
theorem S9:Tryz.prog.cellsOf 70=7:=by kernel_rfl
theorem RL:nN Tryz.prog 74=true:=by kernel_rfl
theorem TQ:Tryz.prog.cellsOf 74=4:=by kernel_rfl
def Jl (a:Ac):Prop:=a.title.size≤maxLen∧a.se.size≤maxLen∧∀x∈a.items,vR x
def JL (g:Gz):Prop:=g.prior.size≤maxLen∧g.acts.length≤maxLen∧∀a∈g.acts,Jl a
theorem Sl {is:List IV} (h:OkC Tryz.prog 70 is):∃a:Ac,IV.agg is=acv a∧Jl a:=by
 obtain⟨parts,rfl,hl,hp⟩:=h.fQ Tryz.underlying70
 match parts,hl with
 |[p0,p1,p2,p3,p4],_=>
  obtain⟨n,rfl,_⟩:=(hp 0 _ _ rfl rfl).bT Tryz.underlying3
  obtain⟨t,rfl,ht⟩:=(hp 1 _ _ rfl rfl).fF Tryz.underlying9
  obtain⟨d,rfl,_⟩:=(hp 2 _ _ rfl rfl).bT Tryz.underlying3
  obtain⟨st,rfl,hs⟩:=Dl (hp 3 _ _ rfl rfl)
  obtain⟨L,rfl,_,hL⟩:=(K8 (hp 4 _ _ rfl rfl)).2 rfl
  exact⟨⟨n,t,d,st.k,st.d,st.e,L⟩,rfl,ht,hs,hL⟩
theorem Px {is:List IV} (h:OkC Tryz.prog 71 is):∃L:List Ac,is=[.sl 7 (L.map acv)]∧L.length≤maxLen∧∀a∈L,Jl a:=by
 obtain⟨css,rfl,h2,h3⟩:=h.lC Tryz.underlying71
 obtain⟨L,h4,h5,h6⟩:=kT (f:=acv) (ok:=Jl) (fun cs hcs=>by rw[P9];exact Sl hcs) css h3
 exact⟨L,by rw[S9,h4],by omega,h6⟩
theorem Te {is:List IV} (h:OkC Tryz.prog 74 is):∃g:Gz,IV.agg is=gzv g∧JL g:=by
 obtain⟨parts,rfl,hl,hp⟩:=h.fQ Tryz.underlying74
 match parts,hl with
 |[p0,p1,p2,p3],_=>
  obtain⟨n,rfl,_⟩:=(hp 0 _ _ rfl rfl).bT Tryz.underlying3
  obtain⟨d,rfl,_⟩:=(hp 1 _ _ rfl rfl).bT Tryz.underlying3
  obtain⟨s,rfl,hs⟩:=(hp 2 _ _ rfl rfl).fF Tryz.underlying9
  obtain⟨L,rfl,hl,hL⟩:=Px (hp 3 _ _ rfl rfl)
  exact⟨⟨n,d,s,L⟩,rfl,hs,hl,hL⟩
theorem Sv {is:List IV} (h:OkC Tryz.prog 22 is):∃L:List Gz,is=[.sl 4 (L.map gzv)]∧L.length≤maxLen∧∀g∈L,JL g:=by
 obtain⟨css,rfl,h2,h3⟩:=h.lC Tryz.underlying22
 obtain⟨L,h4,h5,h6⟩:=kT (f:=gzv) (ok:=JL) (fun cs hcs=>by rw[RL];exact Te hcs) css h3
 exact⟨L,by rw[TQ,h4],by omega,h6⟩
theorem Sc {m:Nat} (hm:m≤140737488355328) {g:Gz} (h:JL g) (hs:szI m (gzv g)):Jz g:=by
 unfold gzv szI at hs
 simp only[szL,szI]at hs
 obtain⟨_,_,_,⟨_,h4⟩,_⟩:=hs
 refine⟨h.1,h.2.1,fun a ha=>?_⟩
 have h5:=oM.1 h4 _ (List.mem_map_of_mem ha)
 unfold acv szI at h5
 simp only[szL,szI,List.length_map]at h5
 obtain⟨_,_,_,_,_,_,⟨h6,_⟩,_⟩:=h5
 obtain⟨f1,f2,f3⟩:=h.2.2 a ha
 exact⟨f1,f2,by omega,f3⟩
section
variable {H:Type} {enc:TypeId×Value→H} {w:World} {bs:Nat} {spare:Nat→Bool} {held:Bool}
def S2:List TypeId:=[3,9,35,211,213,36,39,37,119,33,40,42,45,43,70,71,74,22]
theorem Tt:closed Tryz.prog S2=true:=by kernel_rfl
theorem tY {t e:TypeId} {a:Option Addr} {n c:Nat} {d:DataW H} {p:List MemPlace} {m:Nat} (hu:Tryz.prog.underlying t=some (.slice e)) (h:∃fuel,DataW.trod enc Tryz.prog w bs spare held fuel t (Value.slice a n c).cells.toList=some (d,p)) (hm:∀k∈d.weights Tryz.prog t,k≤m):n*Tryz.prog.bytesOf e≤m:=by
 obtain⟨fuel,hf⟩:=h
 rcases DataW.trod_slice hu hf with ⟨h1,_⟩|⟨a',len,cap,elems,rest,k,_,h1,hx,_,_,_,hel,_⟩
 ·simp only[Value.cells]at h1
  injection h1 with h1
  injection h1 with _ h1
  subst h1
  omega
 ·simp only[Value.cells]at h1
  injection h1 with h1
  injection h1 with _ h1
  injection hx with hx _
  have:=hm ((elems.length+rest.length)*Tryz.prog.bytesOf e) (by rw[hx];simp[DataW.weights,hu])
  subst h1
  refine Nat.le_trans (Nat.mul_le_mul_right _ ?_) this
  omega
def Qy (L:List Gz):Prop:=L.length*56≤140737488351232∧∀g∈L,Jz g
theorem KW {a:Option Addr} {n c:Nat} {d:DataW H} {p:List MemPlace} (h:∃fuel,DataW.trod enc Tryz.prog w bs spare held fuel 22 (Value.slice a n c).cells.toList=some (d,p)) (hm:∀k∈d.weights Tryz.prog 22,k≤reachBytes) :
  ∃L:List Gz,aF (fun b=>b < w.heap.size) w (.sl 4 (L.map gzv)) (.slice a n c)∧Qy L:=by
 obtain⟨fuel,hf⟩:=h
 obtain⟨is,h1,h2,h3⟩:=FR Tt fuel 22 _ _ (by decide) hf
 obtain⟨L,rfl,h4,h5⟩:=Sv h2
 have hs:=h3 reachBytes hm
 simp only[szL,szI]at hs
 have hrep:aF (fun b=>b < w.heap.size) w (.sl 4 (L.map gzv)) (.slice a n c):=by
  unfold aO at h1
  obtain⟨v,r,e1,_,e3,_⟩:=h1
  have:v=.slice a n c:=by
   have:=congrArg List.head? e1
   simpa[Value.cells]using this.symm
  rw[←this]
  exact e3
 refine⟨L,hrep,?_,fun g hg=>Sc (m:=reachBytes) (by decide) (h5 g hg) (oM.1 hs.1.2 _ (List.mem_map_of_mem hg))⟩
 have hb:=tY Tryz.underlying22 ⟨fuel,hf⟩ hm
 have hl:n=L.length:=by
  unfold aF at hrep
  obtain⟨_,_,e,_⟩:=hrep
  injection e with _ e
  simpa using e
 rw[hl,show Tryz.prog.bytesOf 74=56 by kernel_rfl]at hb
 exact Nat.le_trans hb (by decide)
end
end Go.Proofs.YtfjibfdelbodjaaGreat.Po
