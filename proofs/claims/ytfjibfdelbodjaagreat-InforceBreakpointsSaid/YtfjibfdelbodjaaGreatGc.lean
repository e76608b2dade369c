/-
  Corpus: the library's sort at enacted items; an item by its reference; the enacted items. Corpus: the enacted items, by the program. Corpus: the reference's acts of all gazettes, the first of a number, which of two comes first. Corpus: the reference's acts that count.
-/
import Derived.Test.YtfjibfdelbodjaaGreatSrt
import Derived.Shelf.SlSortCmp.NoneTotal
import Derived.Test.YtfjibfdelbodjaaGreatGb
namespace Go.Proofs.YtfjibfdelbodjaaGreat.Po
open Go Go.Pv Go.RowKit
set_option linter.unusedSimpArgs false
open Lab Lcs Go.Proofs.YtfjibfdelbodjaaGreat Go.Proofs.YtfjibfdelbodjaaGreat.Pu
open Go.Sort (SWO)
open Go.Proofs (ltOf)
set_option maxRecDepth 10000
set_option maxHeartbeats 32000000
theorem TJ:∀w,(isAgg 47).run Tryz.prog w=.ok true w:=fun _=>by kernel_rfl
theorem SS:∀w,(Go.sizeOf 47).run Tryz.prog w=.ok 28 w:=fun _=>by kernel_rfl
theorem Ia (L S:List Ei) (hL:L.length≤1000000000) (hS:∀l':List Ei,l'.Perm L→l'.Pairwise (fun a b=>ltOf fD b a=false)→l'.map eiv=S.map eiv) :
  PCB Tryz.prog aM 79 [.row 0 1,.imm (.fn 80)] [.row 47 28 1 ((L.map eiv).map .imm)] [] [.row 47 28 1 ((S.map eiv).map .imm)]:=
 AJ eiv (by decide) (fun x=>⟨_,rfl⟩) fD Lx (enters_of Tryz.func79 rfl rfl)
  (fun α _ enc hk h1 cfa hO blk cap d w hcmp hH hb hd=>by
   have hcon:=Go.Proofs.AnyQ.slices_SortFunc Tryz.sortEi 28 TJ SS enc hk h1 cfa hO 80 #[] blk 0 cap d w (enters_of Tryz.func80 rfl rfl) hcmp hH hb hd
   change Calls Tryz.prog 79 _ _ _ at hcon
   exact hcon)
  (fun p cap w=>by
   have hcon:=Go.Proofs.AnyF.slices_SortFunc_none (P:=Tryz.prog) (ρ:=Tryz.sortEi_ren) { Tryz.sortEi with } p cap (.func (.func 80) #[] #[]) w
   change Calls Tryz.prog 79 _ _ _ at hcon
   exact hcon)
  L S (by unfold most;exact hL) (fun x _ y _=>uy x y) hS
end Go.Proofs.YtfjibfdelbodjaaGreat.Po
namespace Go.Proofs.YtfjibfdelbodjaaGreat.Po
open Go Go.Pv Go.RowKit
set_option linter.unusedSimpArgs false
open Lab Lcs Go.Proofs.YtfjibfdelbodjaaGreat Go.Proofs.YtfjibfdelbodjaaGreat.Pu
open Go.Proofs (ltOf)
set_option maxRecDepth 10000
set_option maxHeartbeats 32000000
def xM (l:AcM):Nat:=(l.map fun p=>p.2.items.length).sum
theorem J6 (m:eT) (a:Ac):(eiA (rO m a)).length=a.items.length:=by
 unfold eiA rO
 rw[nI,kV]
theorem rW (m:eT):∀l:AcM,(iC m l).length=xM l
 |[]=>rfl
 |p::l=>by
  have:=rW m l
  unfold iC xM at *
  rw[List.flatMap_cons,List.length_append,J6,this]
  simp
def yM (a:Ac):Prop:=a.items.length≤1000000∧∀x∈a.items,CpI x
theorem Du {m:eT} {n:Int}:∀{l:List It} {i:Nat} {y:It},y∈lD m n i l→∃x∈l,∃j,y=mF m n j x
 |[],_,_,h=>by cases h
 |x::l,i,y,h=>by
  rw[lD]at h
  rcases List.mem_cons.1 h with rfl|h
  ·exact⟨x,List.mem_cons_self,i,rfl⟩
  ·obtain⟨z,hz,j,e⟩:=Du h
   exact⟨z,List.mem_cons_of_mem _ hz,j,e⟩
theorem CpI.by {x:It} (h:CpI x):∀y∈x.bys,CpI y:=by cases h;assumption
theorem ND {r:Rg} (h:jE yM r) {n i:Int} {x:It} (hx:CpI x):CpI (mF r.cors n i x):=by
 unfold mF
 split
 ·rename_i e he
  split
  ·obtain⟨h1,_,a,ha,hea⟩:=h.cor n i e he
   obtain⟨y,q,hy⟩:=ML h1
   obtain⟨k,u,hu,rfl⟩:=jg hea
   rw[hy]
   exact (ha.2 u (List.mem_of_getElem? hu)).by y (by rw[show u.bys=y::q from hy];exact List.mem_cons_self)
  ·exact hx
 ·exact hx
theorem Ec {r:Rg} (h:jE yM r) {a:Ac} (ha:yM a):(rO r.cors a).items.length≤1000000∧∀x∈(rO r.cors a).items,CpI x:=by
 refine⟨by unfold rO;rw[kV];exact ha.1,fun x hx=>?_⟩
 obtain⟨y,hy,j,rfl⟩:=Du (show x∈lD r.cors a.num 0 a.items from hx)
 exact ND h (ha.2 y hy)
theorem Lh (p:Int×Ac) (l:AcM):xM (p::l)=p.2.items.length+xM l:=by simp[xM]
theorem Li {l l':AcM} (h:l.Perm l'):xM l=xM l':=by
 unfold xM
 exact (h.map _).sum_nat
theorem Hu {m:eT} {l l':AcM} (h:l.Perm l'):(iC m l).Perm (iC m l'):=by
 unfold iC
 exact List.Perm.flatMap_right _ h
theorem Hr (m:eT) (p:Int×Ac) (l:AcM):iC m (p::l)=eiA (rO m p.2)++iC m l:=by simp[iC]
theorem M4 (l:List Gz) (hl:l.length≤1000000) (hG:∀g∈l,SmG g) (hF:∀g∈l,∀a∈g.acts,yM a) (hn:xM (lG l).acts≤1000000) :
  PC Tryz.prog aM 58 [.sl 4 (l.map gzv)] [.sl 28 ((rA (ku (lG l))).map eiv)]:=by
 have hRg:=zD l hl hG
 have hgood:=nT hF
 generalize lG l=r at *
 have hokc:=hgood.okc
 have hun:=vI hgood
 refine PC.aj (T:=(SE fun r=>Nat.beq r 1)) ay l8 rfl mixed Tryz.func58 rfl rfl (Nat.le_of_ble_eq_true rfl) ?_;intro Γ C WK LP fin h0 hW hC hB hR hLP hfin
 have h03:Γ.n0=0:=h0
 (try (conv=>whnf));(repeat ((first|refine qT ?_|refine qF ?_|refine qO ?_|(with_reducible intro z hz);(first|(replace hz:=hz (by omega);subst hz)|subst hz));(try (conv=>whnf))))
 refine hW _ _ _ (aC.spare.trans aC.spare) ?_
 (try (conv=>whnf));(repeat ((first|refine qT ?_|refine qF ?_|refine qO ?_|(with_reducible intro z hz);(first|(replace hz:=hz (by omega);subst hz)|subst hz));(try (conv=>whnf))))
 refine bV.mk ([.agg [.row 0 2,.row 1 2,.row 2 2]]) ([.map (.int .i64) 2 (mkL kI acv r.acts),.map (.int .i64) 2 (mkL kI IV.bool r.jf),.map kkC 2 (mkL kv2 eiv r.cors)]) (hB _ _ _ _ _ (hRg)) ?_
 (try (conv=>whnf));(repeat ((first|refine qT ?_|refine qF ?_|refine qO ?_|(with_reducible intro z hz);(first|(replace hz:=hz (by omega);subst hz)|subst hz));(try (conv=>whnf))))
 refine hLP _ _ _ (Bool×(Int×Ac)×AcM×List Ei) (fun p=>⟨[(3,.ptr 3 1 0),(4,.row 5 1),(11,.ptr 4 1 0)],[.map (.int .i64) 78 (mkL kI IV.bool r.jf),.map kkC 78 (mkL kv2 eiv r.cors),.dead 1,.box 1 [.row 2 1,.row 0 78,.row 1 78],.map (.iter p.1) 1 (MP kI acv p.1 p.2.1 p.2.2.1),.row 47 28 1 ((p.2.2.2.map eiv).map .imm)]⟩) (fun p=>(p.2.2.2++iC r.cors p.2.2.1).Perm (ku r)∧(∀q∈p.2.2.1,yM q.2)) (fun p=>p.2.2.1.length) (false,(0,⟨0,z0,0,0,0,z0,[]⟩),r.acts,[]) ⟨by simp[ku],fun q hq=>hgood.ok q hq⟩ ((aC.lZ 4 47 28 (Nat.le_of_ble_eq_true rfl) rfl).trans ((aC.row 5 (((([]:List Ei).map eiv).map .imm)) rfl (by rfl)).trans (qSL 6 rfl rfl))) ?_
 rintro⟨f,q,R,out⟩ ⟨hperm,hfit⟩
 dsimp only at hperm hfit ⊢
 have hle:=yX (kv:=kI) (vv:=acv) f q R
 have hlen:=hperm.length_eq
 rw[List.length_append,rW]at hlen
 unfold ku at hlen
 rw[rW]at hlen
 have hol:((out.map eiv).map PV.imm).length=out.length:=by simp
 (try (conv=>whnf));(repeat ((first|refine qT ?_|refine qF ?_|refine qO ?_|(with_reducible intro z hz);(first|(replace hz:=hz (by omega);subst hz)|subst hz));(try (conv=>whnf))))
 refine NxK.mk (fun h0=>?_) (fun i p hp=>?_)
 ·rw[hle]at h0
  obtain rfl:=Ed h0
  have hS:=Ia out (rA (ku r)) (by omega) (fun l' hp' hs'=>by rw[vM (hp'.trans (by simpa[iC]using hperm)) hun hs'])
  (try (conv=>whnf));(repeat ((first|refine qT ?_|refine qF ?_|refine qO ?_|(with_reducible intro z hz);(first|(replace hz:=hz (by omega);subst hz)|subst hz));(try (conv=>whnf))))
  refine bN.mk (out.map eiv) rfl ?_
  (try (conv=>whnf));(repeat ((first|refine qT ?_|refine qF ?_|refine qO ?_|(with_reducible intro z hz);(first|(replace hz:=hz (by omega);subst hz)|subst hz));(try (conv=>whnf))))
  refine bV.mk ([]) ([.row 47 28 1 ((rA (ku r)).map eiv)]) (hB _ _ _ _ _ (hS)) ?_
  (try (conv=>whnf));(repeat ((first|refine qT ?_|refine qF ?_|refine qO ?_|(with_reducible intro z hz);(first|(replace hz:=hz (by omega);subst hz)|subst hz));(try (conv=>whnf))))
  refine bN.mk ((rA (ku r)).map eiv) rfl ?_
  (try (conv=>whnf));(repeat ((first|refine qT ?_|refine qF ?_|refine qO ?_|(with_reducible intro z hz);(first|(replace hz:=hz (by omega);subst hz)|subst hz));(try (conv=>whnf))))
  exact hfin _ (aA.refl _)
 ·rw[hle]at hp
  obtain⟨p,hq,rfl⟩:=MW hp
  have hpe:=nY hq
  have hlt:=hpe.length_eq
  have hpf:=hfit p (List.mem_of_getElem? hq)
  have hCo:=yU r p.2 hokc hpf.1
  obtain⟨hcl,hcf⟩:=Ec hgood hpf
  have hI:=Dx (rO r.cors p.2) hcl hcf
  have hel:=J6 r.cors p.2
  have hpn:=Li hpe
  rw[Lh]at hpn
  have hfl:=Hu (m:=r.cors) hpe
  rw[Hr]at hfl
  rw[List.length_cons]at hlt
  have hkp:∀y∈R.eraseIdx i,yM y.2:=fun y hy=>hfit y (hpe.subset (List.mem_cons_of_mem _ hy))
  generalize eiA (rO r.cors p.2)=X at *
  generalize rO r.cors p.2=ca at *
  have hxl:(X.map eiv).length=X.length:=List.length_map _
  have hxl2:((X.map eiv).map PV.imm).length=X.length:=by simp
  (try (conv=>whnf));(repeat ((first|refine qT ?_|refine qF ?_|refine qO ?_|(with_reducible intro z hz);(first|(replace hz:=hz (by omega);subst hz)|subst hz));(try (conv=>whnf))))
  refine bV.mk ([.imm (acv ca)]) (TR r) (hB _ _ _ _ _ (hCo)) ?_
  (try (conv=>whnf));(repeat ((first|refine qT ?_|refine qF ?_|refine qO ?_|(with_reducible intro z hz);(first|(replace hz:=hz (by omega);subst hz)|subst hz)|(refine ah.mk _ (hC _ _ _ (PCw.of hI)) (fun js hjs=>?_);subst hjs));(try (conv=>whnf))))
  exact⟨(true,p,R.eraseIdx i,out++X),⟨by
   dsimp only
   rw[List.append_assoc]
   exact (hfl.append_left out).trans hperm,hkp⟩,by dsimp only;omega,by
   dsimp only
   exact ((aC.row 5 ((((out++X).map eiv).map .imm)) rfl (by simp)).trans ((aC.qD 4 ((MP kI acv true p (R.eraseIdx i))) rfl (by rw[hle,sM];rfl)).trans ((aC.renew 5 1 rfl (by first|omega|(intro _;rw[hk0 _ _ rfl];exact Nat.le_of_ble_eq_true rfl)) (by repeat (first|exact trivial|refine And.intro (bA _ _ _ _) ?_|refine And.intro rfl ?_))).trans (qSL 6 rfl rfl))))⟩
end Go.Proofs.YtfjibfdelbodjaaGreat.Po
namespace Go.Proofs.YtfjibfdelbodjaaGreat.Po
open Go Go.Pv Go.RowKit
set_option linter.unusedSimpArgs false
open Lab Lcs Go.Proofs.YtfjibfdelbodjaaGreat Go.Proofs.YtfjibfdelbodjaaGreat.Pu
set_option maxRecDepth 10000
set_option maxHeartbeats 32000000
def allA (l:List Gz):List Ac:=l.flatMap Gz.acts
theorem LG {l:List Gz} {k:Nat} {g:Gz} (h:l[k]?=some g):allA (l.take (k+1))=allA (l.take k)++g.acts:=by
 unfold allA
 rw[take_at h,List.flatMap_append];simp
theorem mO (l:List Gz) (h:∀g∈l,g.acts.length≤1000):(allA l).length≤l.length*1000:=by
 unfold allA
 induction l with
 |nil=>simp
 |cons g l ih=>
  rw[List.flatMap_cons,List.length_append,List.length_cons,Nat.succ_mul]
  have:=h g List.mem_cons_self
  have:=ih fun x hx=>h x (List.mem_cons_of_mem _ hx)
  omega
theorem Sm (l:List Gz) (hl:l.length≤1000) (hg:∀g∈l,g.acts.length≤1000):PC Tryz.prog aM 55 [.sl 4 (l.map gzv)] [.sl 7 ((allA l).map acv)]:=by
 have hml:(l.map gzv).length=l.length:=List.length_map _
 refine PC.aj (T:=tb0) ay aH rfl mixed Tryz.func55 rfl rfl (Nat.le_of_ble_eq_true rfl) ?_;intro Γ C WK LP fin h0 hW hC hB hR hLP hfin
 (try (conv=>whnf));(repeat ((first|refine qT ?_|refine qF ?_|refine qO ?_|(with_reducible intro z hz);(first|(replace hz:=hz (by omega);subst hz)|subst hz));(try (conv=>whnf))))
 refine hLP _ _ _ Nat (fun k=>⟨[(0,.imm (.sl 4 (l.map gzv))),(3,.row 0 1),(4,.imm (.int .i64 (k:Nat)))],[.row 70 7 1 (((allA (l.take k)).map acv).map .imm)]⟩) (fun k=>k≤l.length) (fun k=>l.length - k) 0 (Nat.zero_le _) ((aC.row 0 ((((allA (l.take 0)).map acv).map .imm)) rfl (by rfl)).trans (qSL 1 rfl rfl)) ?_
 intro k hk
 have hho:=Nat.lt_or_ge k l.length
 cases hho with
 |inl hlt=>
  obtain⟨g,hx⟩:∃g,l[k]?=some g:=⟨l[k],List.getElem?_eq_getElem hlt⟩
  have hst:=LG hx
  have hln:=mO (l.take k) fun x hx=>hg x (List.take_subset _ _ hx)
  rw[List.length_take]at hln
  have hga:=hg g (List.mem_of_getElem? hx)
  generalize allA (l.take k)=R at *
  have hrl:((R.map acv).map PV.imm).length=R.length:=by simp
  have hgl:(g.acts.map acv).length=g.acts.length:=by simp
  (try (conv=>whnf));(repeat ((first|refine qT ?_|refine qF ?_|refine qO ?_|(with_reducible intro z hz);(first|(replace hz:=hz (by omega);subst hz)|subst hz));(try (conv=>whnf))))
  refine Idx.mk k (gzv g) _ rfl (by simp[hx]) rfl ?_
  (try (conv=>whnf));(repeat ((first|refine qT ?_|refine qF ?_|refine qO ?_|(with_reducible intro z hz);(first|(replace hz:=hz (by omega);subst hz)|subst hz));(try (conv=>whnf))))
  exact⟨k+1,by omega,by dsimp only;omega,by
   dsimp only[]
   rw[hst]
   exact (aC.row 0 ((((R++g.acts).map acv).map .imm)) rfl (by simp)).trans ((aC.renew 0 1 rfl (by first|omega|(intro _;rw[hk0 _ _ rfl];exact Nat.le_of_ble_eq_true rfl)) (by repeat (first|exact trivial|refine And.intro (bA _ _ _ _) ?_|refine And.intro rfl ?_))).trans (qSL 1 rfl rfl))⟩
 |inr hge=>
  obtain rfl:k=l.length:=by omega
  rw[List.take_length]
  (try (conv=>whnf));(repeat ((first|refine qT ?_|refine qF ?_|refine qO ?_|(with_reducible intro z hz);(first|(replace hz:=hz (by omega);subst hz)|subst hz));(try (conv=>whnf))))
  refine bN.mk ((allA l).map acv) rfl ?_
  (try (conv=>whnf));(repeat ((first|refine qT ?_|refine qF ?_|refine qO ?_|(with_reducible intro z hz);(first|(replace hz:=hz (by omega);subst hz)|subst hz));(try (conv=>whnf))))
  exact hfin _ (aA.refl _)
def CS (row:List Ac) (n:Int):Int:=match row.findIdx? (fun a=>decide (a.num=n)) with
 |some i=>(i:Nat)
 |none=>-1
theorem Rz (row:List Ac) (n:Int) (hl:row.length≤1000000):PC Tryz.prog aM 56 [.sl 7 (row.map acv),.int .i64 n] [.int .i64 (CS row n)]:=by
 have hml:(row.map acv).length=row.length:=List.length_map _
 refine PC.aj (T:=tb0) ay aH rfl mixed Tryz.func56 rfl rfl (Nat.le_of_ble_eq_true rfl) ?_;intro Γ C WK LP fin h0 hW hC hB hR hLP hfin
 (try (conv=>whnf));(repeat ((first|refine qT ?_|refine qF ?_|refine qO ?_|(with_reducible intro z hz);(first|(replace hz:=hz (by omega);subst hz)|subst hz));(try (conv=>whnf))))
 refine hLP _ _ _ Nat (fun k=>⟨[(0,.imm (.sl 7 (row.map acv))),(1,.imm (.int .i64 n)),(5,.imm (.int .i64 (k:Nat)))],[]⟩) (fun k=>k≤row.length∧∀a∈row.take k,a.num≠n) (fun k=>row.length - k) 0 ⟨Nat.zero_le _,by simp⟩ (qSL 0 rfl rfl) ?_
 rintro k ⟨hk,hno⟩
 have hho:=Nat.lt_or_ge k row.length
 cases hho with
 |inl hlt=>
  obtain⟨a,ha⟩:∃a,row[k]?=some a:=⟨row[k],List.getElem?_eq_getElem hlt⟩
  by_cases hn:a.num=n
  ·have hf:CS row n=k:=by
    unfold CS
    have:row.findIdx? (fun a=>decide (a.num=n))=some k:=by
     rw[List.findIdx?_eq_some_iff_getElem]
     refine⟨hlt,?_,fun j hj=>?_⟩
     ·rw[(List.getElem?_eq_some_iff.1 ha).2];simpa using hn
     ·have:=hno row[j] (List.mem_take_iff_getElem.2 ⟨j,by omega,rfl⟩)
      simpa using this
    rw[this]
   rw[hf]at hfin
   (try (conv=>whnf));(repeat ((first|refine qT ?_|refine qF ?_|refine qO ?_|(with_reducible intro z hz);(first|(replace hz:=hz (by omega);subst hz)|subst hz));(try (conv=>whnf))))
   refine Idx.mk k (acv a) _ rfl (by simp[ha]) rfl ?_
   (try (conv=>whnf));(repeat ((first|refine qT ?_|refine qF ?_|refine qO ?_|(with_reducible intro z hz);(first|(replace hz:=hz (by omega);subst hz)|subst hz));(try (conv=>whnf))))
   exact hfin _ (aA.refl _)
  ·(try (conv=>whnf));(repeat ((first|refine qT ?_|refine qF ?_|refine qO ?_|(with_reducible intro z hz);(first|(replace hz:=hz (by omega);subst hz)|subst hz));(try (conv=>whnf))))
   refine Idx.mk k (acv a) _ rfl (by simp[ha]) rfl ?_
   (try (conv=>whnf));(repeat ((first|refine qT ?_|refine qF ?_|refine qO ?_|(with_reducible intro z hz);(first|(replace hz:=hz (by omega);subst hz)|subst hz));(try (conv=>whnf))))
   exact⟨k+1,⟨by omega,fun b hb=>by
    rw[take_at ha]at hb
    rcases List.mem_append.1 hb with hb|hb
    ·exact hno b hb
    ·obtain rfl:=List.mem_singleton.1 hb;exact hn⟩,by dsimp only;omega,(qSL 0 rfl rfl)⟩
 |inr hge=>
  obtain rfl:k=row.length:=by omega
  rw[List.take_length]at hno
  have hf:CS row n=-1:=by
   unfold CS
   rw[List.findIdx?_eq_none_iff.2 (fun a ha=>by simpa using hno a ha)]
  rw[hf]at hfin
  (try (conv=>whnf));(repeat ((first|refine qT ?_|refine qF ?_|refine qO ?_|(with_reducible intro z hz);(first|(replace hz:=hz (by omega);subst hz)|subst hz));(try (conv=>whnf))))
  exact hfin _ (aA.refl _)
def gQ (a b:Ac):Bool:=decide (a.day < b.day∨(a.day=b.day∧a.num < b.num))
theorem Ox (a b:Ac):PC Tryz.prog aM 57 [acv a,acv b] [.bool (gQ a b)]:=by
 unfold acv gQ
 by_cases h1:a.day=b.day
 ·by_cases h2:a.num < b.num
  ·rw[decide_eq_true (by omega)]
   refine PC.aj (T:=tb0) ay aH rfl mixed Tryz.func57 rfl rfl (Nat.le_of_ble_eq_true rfl) ?_;intro Γ C WK LP fin h0 hW hC hB hR hLP hfin
   (try (conv=>whnf));(repeat ((first|refine qT ?_|refine qF ?_|refine qO ?_|(with_reducible intro z hz);(first|(replace hz:=hz (by omega);subst hz)|subst hz));(try (conv=>whnf))))
   exact hfin _ (aA.refl _)
  ·rw[decide_eq_false (by omega)]
   refine PC.aj (T:=tb0) ay aH rfl mixed Tryz.func57 rfl rfl (Nat.le_of_ble_eq_true rfl) ?_;intro Γ C WK LP fin h0 hW hC hB hR hLP hfin
   (try (conv=>whnf));(repeat ((first|refine qT ?_|refine qF ?_|refine qO ?_|(with_reducible intro z hz);(first|(replace hz:=hz (by omega);subst hz)|subst hz));(try (conv=>whnf))))
   exact hfin _ (aA.refl _)
 ·by_cases h2:a.day < b.day
  ·rw[decide_eq_true (by omega)]
   refine PC.aj (T:=tb0) ay aH rfl mixed Tryz.func57 rfl rfl (Nat.le_of_ble_eq_true rfl) ?_;intro Γ C WK LP fin h0 hW hC hB hR hLP hfin
   (try (conv=>whnf));(repeat ((first|refine qT ?_|refine qF ?_|refine qO ?_|(with_reducible intro z hz);(first|(replace hz:=hz (by omega);subst hz)|subst hz));(try (conv=>whnf))))
   exact hfin _ (aA.refl _)
  ·rw[decide_eq_false (by omega)]
   refine PC.aj (T:=tb0) ay aH rfl mixed Tryz.func57 rfl rfl (Nat.le_of_ble_eq_true rfl) ?_;intro Γ C WK LP fin h0 hW hC hB hR hLP hfin
   (try (conv=>whnf));(repeat ((first|refine qT ?_|refine qF ?_|refine qO ?_|(with_reducible intro z hz);(first|(replace hz:=hz (by omega);subst hz)|subst hz));(try (conv=>whnf))))
   exact hfin _ (aA.refl _)
end Go.Proofs.YtfjibfdelbodjaaGreat.Po
namespace Go.Proofs.YtfjibfdelbodjaaGreat.Po
open Go Go.Pv Go.RowKit
set_option linter.unusedSimpArgs false
open Lab Lcs Go.Proofs.YtfjibfdelbodjaaGreat Go.Proofs.YtfjibfdelbodjaaGreat.Pu
set_option maxRecDepth 10000
set_option maxHeartbeats 32000000
def isF (row:List Ac) (k:Nat) (a:Ac):Bool:=decide (CS row a.num=(k:Int))
def ig (a:Ac) (out:List Ac):List Ac:=out.takeWhile (fun b=>gQ b a)++a::out.dropWhile (fun b=>gQ b a)
def bX (row:List Ac):Nat→List Ac
 |0=>[]
 |k+1=>match row[k]? with
  |some a=>if isF row k a=true then ig a (bX row k) else bX row k
  |none=>bX row k
def bn (row:List Ac):List Ac:=bX row row.length
theorem Nl (a:Ac) (out:List Ac):(ig a out).length=out.length+1:=by
 unfold ig
 have:=congrArg List.length (List.takeWhile_append_dropWhile (p:=fun b=>gQ b a) (l:=out))
 rw[List.length_append]at this
 rw[List.length_append,List.length_cons];omega
theorem lg (row:List Ac):∀k,(bX row k).length≤k
 |0=>by simp[bX]
 |k+1=>by
  have:=lg row k
  unfold bX
  split
  ·split
   ·rw[Nl];omega
   ·omega
  ·omega
theorem OD {α:Type} {p:α→Bool}:∀{l:List α} {j:Nat},(∀x∈l.take j,p x=true)→(j=l.length∨∃y,l[j]?=some y∧p y=false)→l.takeWhile p=l.take j∧l.dropWhile p=l.drop j
 |[],j,_,h=>by simp
 |a::l,0,_,h=>by
  rcases h with h|⟨y,hy,hp⟩
  ·simp at h
  ·obtain rfl:a=y:=by simpa using hy
   simp[hp]
 |a::l,j+1,hl,h=>by
  have ha:p a=true:=hl a (by simp)
  obtain⟨h1,h2⟩:=OD (l:=l) (j:=j) (fun x hx=>hl x (by simp[hx])) (by
   rcases h with h|⟨y,hy,hp⟩
   ·left;simpa using h
   ·right;exact⟨y,by simpa using hy,hp⟩)
  simp[ha,h1,h2]
theorem Jo (out:List Ac) (a:Ac) (j:Nat):((out.map acv).map PV.imm).take j++[PV.imm (acv a)]++(((out.map acv).map PV.imm).drop j).take (((out.map acv).map PV.imm).length - j)=((out.take j++a::out.drop j).map acv).map PV.imm:=by
 rw[List.take_of_length_le (l:=((out.map acv).map PV.imm).drop j) (by simp)]
 simp[List.map_take,List.map_drop]
theorem Dn (out:List Ac) (j:Nat):[]++(((out.map acv).map PV.imm).drop j).take (((out.map acv).map PV.imm).length - j)=((out.drop j).map acv).map PV.imm:=by
 rw[List.take_of_length_le (l:=((out.map acv).map PV.imm).drop j) (by simp)]
 simp[List.map_drop]
theorem Jg (l:List Gz) (hl:l.length≤1000) (hg:∀g∈l,g.acts.length≤1000):PC Tryz.prog aM 32 [.sl 4 (l.map gzv)] [.sl 7 ((bn (allA l)).map acv)]:=by
 have hAl:=Sm l hl hg
 have hln:=mO l hg
 unfold bn
 generalize allA l=row at *
 have hml:(row.map acv).length=row.length:=List.length_map _
 refine PC.aj (T:=tb0) ay aH rfl mixed Tryz.func32 rfl rfl (Nat.le_of_ble_eq_true rfl) ?_;intro Γ C WK LP fin h0 hW hC hB hR hLP hfin
 (try (conv=>whnf));(repeat ((first|refine qT ?_|refine qF ?_|refine qO ?_|(with_reducible intro z hz);(first|(replace hz:=hz (by omega);subst hz)|subst hz)|(refine ah.mk _ (hC _ _ _ (PCw.of hAl)) (fun js hjs=>?_);subst hjs));(try (conv=>whnf))))
 refine hLP _ _ _ Nat (fun k=>⟨[(3,.imm (.sl 7 (row.map acv))),(4,.row 1 1),(5,.imm (.int .i64 (k:Nat)))],[.dead 0,.row 70 7 1 (((bX row k).map acv).map .imm)]⟩) (fun k=>k≤row.length) (fun k=>row.length - k) 0 (Nat.zero_le _) ((aC.row 1 ((((bX row 0).map acv).map .imm)) rfl (by rfl)).trans (qSL 2 rfl rfl)) ?_
 intro k hk
 have hho:=Nat.lt_or_ge k row.length
 cases hho with
 |inl hlt=>
  refine (?_:∀Q:Exit→AS→Prop,vcS _ _ _ _ _ _ _ (dV _ _ _ _ _ _ Q)) _;intro Q
  obtain⟨a,ha⟩:∃a,row[k]?=some a:=⟨row[k],List.getElem?_eq_getElem hlt⟩
  have hFs:=Rz row a.num (by omega)
  have hkl:=lg row k
  by_cases hF:CS row a.num=(k:Int)
  ·have hst:bX row (k+1)=ig a (bX row k):=by
    rw[bX,ha]
    dsimp only
    rw[if_pos (by unfold isF;simpa using hF)]
   rw[hF]at hFs
   generalize bX row k=out at *
   have hol:((out.map acv).map PV.imm).length=out.length:=by simp
   (try (conv=>whnf));(repeat ((first|refine qT ?_|refine qF ?_|refine qO ?_|(with_reducible intro z hz);(first|(replace hz:=hz (by omega);subst hz)|subst hz));(try (conv=>whnf))))
   refine Idx.mk k (acv a) _ rfl (by simp[ha]) rfl ?_
   (try (conv=>whnf));(repeat ((first|refine qT ?_|refine qF ?_|refine qO ?_|(with_reducible intro z hz);(first|(replace hz:=hz (by omega);subst hz)|subst hz)|(refine ah.mk _ (hC _ _ _ (PCw.of hFs)) (fun js hjs=>?_);subst hjs));(try (conv=>whnf))))
   refine hLP _ _ _ Nat (fun j=>⟨[(3,.imm (.sl 7 (row.map acv))),(4,.row 1 1),(5,.imm (.int .i64 (k:Nat))),(6,.imm (.int .i64 (j:Nat)))],[.dead 0,.row 70 7 1 ((out.map acv).map .imm)]⟩) (fun j=>j≤out.length∧∀b∈out.take j,gQ b a=true) (fun j=>out.length - j) 0 ⟨Nat.zero_le _,by simp⟩ (qSL 2 rfl rfl) ?_
   rintro j ⟨hj,hall⟩
   have hfinish:∀(hh:j=out.length∨∃y,out[j]?=some y∧gQ y a=false),ig a out=out.take j++a::out.drop j:=fun hh=>by
    obtain⟨h1,h2⟩:=OD (p:=fun b=>gQ b a) hall hh
    unfold ig
    rw[h1,h2]
   have hhj:=Nat.lt_or_ge j out.length
   cases hhj with
   |inl hjl=>
    obtain⟨b,hb⟩:∃b,out[j]?=some b:=⟨out[j],List.getElem?_eq_getElem hjl⟩
    have hAh:=Ox b a
    have hrb:((out.map acv).map PV.imm)[j]?=some (.imm (acv b)):=by simp[hb]
    cases hab:gQ b a with
    |true=>
     rw[hab]at hAh
     (try (conv=>whnf));(repeat ((first|refine qT ?_|refine qF ?_|refine qO ?_|(with_reducible intro z hz);(first|(replace hz:=hz (by omega);subst hz)|subst hz));(try (conv=>whnf))))
     refine Pos.mk j rfl (by omega) ?_
     (try (conv=>whnf));(repeat ((first|refine qT ?_|refine qF ?_|refine qO ?_|(with_reducible intro z hz);(first|(replace hz:=hz (by omega);subst hz)|subst hz));(try (conv=>whnf))))
     refine At.mk _ hrb ?_
     (try (conv=>whnf));(repeat ((first|refine qT ?_|refine qF ?_|refine qO ?_|(with_reducible intro z hz);(first|(replace hz:=hz (by omega);subst hz)|subst hz));(try (conv=>whnf))))
     refine Idx.mk k (acv a) _ rfl (by simp[ha]) rfl ?_
     (try (conv=>whnf));(repeat ((first|refine qT ?_|refine qF ?_|refine qO ?_|(with_reducible intro z hz);(first|(replace hz:=hz (by omega);subst hz)|subst hz)|(refine ah.mk _ (hC _ _ _ (PCw.of hAh)) (fun js hjs=>?_);subst hjs));(try (conv=>whnf))))
     exact⟨j+1,⟨by omega,fun x hx=>by
      rw[take_at hb]at hx
      rcases List.mem_append.1 hx with hx|hx
      ·exact hall x hx
      ·obtain rfl:=List.mem_singleton.1 hx;exact hab⟩,by dsimp only;omega,(qSL 2 rfl rfl)⟩
    |false=>
     rw[hab]at hAh
     have hins:=hfinish (Or.inr ⟨b,hb,hab⟩)
     (try (conv=>whnf));(repeat ((first|refine qT ?_|refine qF ?_|refine qO ?_|(with_reducible intro z hz);(first|(replace hz:=hz (by omega);subst hz)|subst hz));(try (conv=>whnf))))
     refine Pos.mk j rfl (by omega) ?_
     (try (conv=>whnf));(repeat ((first|refine qT ?_|refine qF ?_|refine qO ?_|(with_reducible intro z hz);(first|(replace hz:=hz (by omega);subst hz)|subst hz));(try (conv=>whnf))))
     refine At.mk _ hrb ?_
     (try (conv=>whnf));(repeat ((first|refine qT ?_|refine qF ?_|refine qO ?_|(with_reducible intro z hz);(first|(replace hz:=hz (by omega);subst hz)|subst hz));(try (conv=>whnf))))
     refine Idx.mk k (acv a) _ rfl (by simp[ha]) rfl ?_
     (try (conv=>whnf));(repeat ((first|refine qT ?_|refine qF ?_|refine qO ?_|(with_reducible intro z hz);(first|(replace hz:=hz (by omega);subst hz)|subst hz)|(refine ah.mk _ (hC _ _ _ (PCw.of hAh)) (fun js hjs=>?_);subst hjs));(try (conv=>whnf))))
     refine Idx.mk k (acv a) _ rfl (by simp[ha]) rfl ?_
     (try (conv=>whnf));(repeat ((first|refine qT ?_|refine qF ?_|refine qO ?_|(with_reducible intro z hz);(first|(replace hz:=hz (by omega);subst hz)|subst hz));(try (conv=>whnf))))
     exact⟨k+1,by omega,by dsimp only;omega,by
      dsimp only[]
      rw[hst,hins]
      exact (aC.row 1 ((((out.take _++a::out.drop _).map acv).map .imm)) rfl (by exact Jo out a _)).trans ((aC.row 3 ((((out.drop _).map acv).map .imm)) rfl (by exact Dn out _)).trans ((aC.renew 1 1 rfl (by first|omega|(intro _;rw[hk0 _ _ rfl];exact Nat.le_of_ble_eq_true rfl)) (by repeat (first|exact trivial|refine And.intro (bA _ _ _ _) ?_|refine And.intro rfl ?_))).trans (qSL 2 rfl rfl)))⟩
   |inr hjg=>
    obtain rfl:j=out.length:=by omega
    have hins:=hfinish (Or.inl rfl)
    (try (conv=>whnf));(repeat ((first|refine qT ?_|refine qF ?_|refine qO ?_|(with_reducible intro z hz);(first|(replace hz:=hz (by omega);subst hz)|subst hz));(try (conv=>whnf))))
    refine Owe.mk ⟨by omega,by rw[List.length_nil];unfold most;omega⟩ ?_
    (try (conv=>whnf));(repeat ((first|refine qT ?_|refine qF ?_|refine qO ?_|(with_reducible intro z hz);(first|(replace hz:=hz (by omega);subst hz)|subst hz));(try (conv=>whnf))))
    refine Idx.mk k (acv a) _ rfl (by simp[ha]) rfl ?_
    (try (conv=>whnf));(repeat ((first|refine qT ?_|refine qF ?_|refine qO ?_|(with_reducible intro z hz);(first|(replace hz:=hz (by omega);subst hz)|subst hz));(try (conv=>whnf))))
    exact⟨k+1,by omega,by dsimp only;omega,by
     dsimp only[]
     rw[hst,hins]
     exact (aC.row 1 ((((out.take _++a::out.drop _).map acv).map .imm)) rfl (by exact Jo out a _)).trans ((aC.row 3 ((((out.drop _).map acv).map .imm)) rfl (by exact Dn out _)).trans ((aC.renew 1 1 rfl (by first|omega|(intro _;rw[hk0 _ _ rfl];exact Nat.le_of_ble_eq_true rfl)) (by repeat (first|exact trivial|refine And.intro (bA _ _ _ _) ?_|refine And.intro rfl ?_))).trans (qSL 2 rfl rfl)))⟩
  ·have hst:bX row (k+1)=bX row k:=by
    rw[bX,ha]
    dsimp only
    rw[if_neg (by unfold isF;simpa using hF)]
   generalize CS row a.num=z at *
   (try (conv=>whnf));(repeat ((first|refine qT ?_|refine qF ?_|refine qO ?_|(with_reducible intro z hz);(first|(replace hz:=hz (by omega);subst hz)|subst hz));(try (conv=>whnf))))
   refine Idx.mk k (acv a) _ rfl (by simp[ha]) rfl ?_
   (try (conv=>whnf));(repeat ((first|refine qT ?_|refine qF ?_|refine qO ?_|(with_reducible intro z hz);(first|(replace hz:=hz (by omega);subst hz)|subst hz)|(refine ah.mk _ (hC _ _ _ (PCw.of hFs)) (fun js hjs=>?_);subst hjs));(try (conv=>whnf))))
   exact⟨k+1,by omega,by dsimp only;omega,by
    dsimp only[]
    rw[hst]
    exact (qSL 2 rfl rfl)⟩
 |inr hge=>
  obtain rfl:k=row.length:=by omega
  (try (conv=>whnf));(repeat ((first|refine qT ?_|refine qF ?_|refine qO ?_|(with_reducible intro z hz);(first|(replace hz:=hz (by omega);subst hz)|subst hz));(try (conv=>whnf))))
  refine bN.mk ((bX row row.length).map acv) rfl ?_
  (try (conv=>whnf));(repeat ((first|refine qT ?_|refine qF ?_|refine qO ?_|(with_reducible intro z hz);(first|(replace hz:=hz (by omega);subst hz)|subst hz));(try (conv=>whnf))))
  exact hfin _ (aA.refl _)
end Go.Proofs.YtfjibfdelbodjaaGreat.Po
