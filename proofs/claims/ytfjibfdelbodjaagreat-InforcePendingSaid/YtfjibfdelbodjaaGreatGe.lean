/-
  Corpus: small gazettes; the law of enacted items. Corpus: copies of acts and items; the item of a reference, by the program. Corpus: the item of a reference, by the program. Corpus: the item of a reference, by the program and by the reference.
-/
import Derived.Test.YtfjibfdelbodjaaGreatHy
namespace Go.Proofs.YtfjibfdelbodjaaGreat.Po
open Go Go.Pv Go.RowKit
set_option linter.unusedSimpArgs false
open Lab Lcs Go.Proofs.YtfjibfdelbodjaaGreat Go.Proofs.YtfjibfdelbodjaaGreat.Pu
set_option maxRecDepth 10000
set_option maxHeartbeats 32000000
theorem yF {w:List Wd} (h:kJ w=true):w.length≤300:=by
 unfold kJ at h
 simp only[Bool.and_eq_true,decide_eq_true_eq]at h
 exact h.2
theorem KS (N:Nat):∀u:Ut,u.count≤N→N≤1000→u.all.all uR=true→CpU u:=by
 induction N with
 |zero=>intro u h;have:=oz u;omega
 |succ N ih=>
 intro u hN hN2 hall
 have hcu:=Ut.count_eq u
 have hkl:=kD u.kids
 have h:=hall
 rw[all_cons,Bool.and_eq_true]at h
 obtain⟨h1,h2⟩:=h
 unfold uR at h1
 simp only[Bool.and_eq_true]at h1
 have g1:=yF h1.1.2
 have g2:=yF h1.2
 refine .mk u ⟨by omega,by omega,by omega⟩ fun x hx=>?_
 rw[vK,List.all_eq_true]at h2
 obtain⟨k,hk,rfl⟩:=List.getElem_of_mem hx
 have hkc:=Cn (List.getElem?_eq_getElem hk)
 exact ih _ (by omega) (by omega) (h2 _ (List.getElem_mem _))
theorem Io {x:It} (h:fu x=true):x.p.length≤12∧x.q.length≤12∧x.old.length≤300∧x.new.length≤300∧x.bys.length≤2∧x.fr.size≤100∧x.se.size≤100∧x.ev.size≤100∧Gi x.unit 30=true∧iP x.bys=true:=by
 rw[JF]at h
 simp only[Bool.and_eq_true]at h
 obtain⟨h1,_,_,_,_,h2⟩:=h
 unfold dQ at h1
 simp only[Bool.and_eq_true,decide_eq_true_eq]at h1
 obtain⟨⟨a1,a2,a3,a4,a5,a6,a7,a8,a9⟩,a10⟩:=h1
 exact⟨a1,a2,a3,a4,a9,a6,a7,a8,a10,h2⟩
theorem AA:∀{l:List It},iP l=true→∀x∈l,fu x=true
 |[],_,_,h=>by cases h
 |y::l,h,x,hx=>by
  rw[iP,Bool.and_eq_true,Bool.and_eq_true]at h
  rcases List.mem_cons.1 hx with rfl|hx
  ·exact h.1.2
  ·exact AA h.2 x hx
theorem Qt {x:It} (hf:vR x):fu x=true→CpI x:=by
 induction hf with
 |mk x hu h1 hb ih=>
 intro h
 obtain⟨a1,a2,a3,a4,a5,_,_,_,a6,a7⟩:=Io h
 obtain⟨s1,s2,s3⟩:=LC (m:=30) a6
 exact .mk x (KS 30 x.unit s1 (by omega) s3) ⟨by omega,by omega,by omega,by omega,by omega⟩ fun y hy=>ih y hy (AA a7 y hy)
structure bO (l:List Gz) (m:Nat):Prop where
 len:l.length≤8
 acts:∀g∈l,g.acts.length≤8
 cnt:iA l≤m
 num:gI (allA l)≤m
 fit:∀g∈l,∀a∈g.acts,yM a
 all:∀g∈l,∀a∈g.acts,a.title.size≤100∧a.se.size≤60∧∀x∈a.items,fu x=true
theorem JM (l:List Gz):gI (allA l)=iA l:=by
 unfold gI iA allA
 induction l with
 |nil=>rfl
 |cons g l ih=>
  rw[List.flatMap_cons,List.map_append,List.sum_append,ih,List.map_cons,List.sum_cons]
  rfl
theorem Rc {l:List Gz} {m:Nat} (hm:m≤1000) (hf:∀g∈l,Jz g) (h:CJ l m=true):bO l m:=by
 unfold CJ at h
 simp only[Bool.and_eq_true,decide_eq_true_eq]at h
 obtain⟨h1,h2,h3⟩:=h
 rw[List.all_eq_true]at h2
 have hz:iA l≤m:=by omega
 have ha:∀g∈l,g.acts.length≤8∧∀a∈g.acts,okA a=true:=fun g hg=>by
  have:=h2 g hg
  unfold okG at this
  simp only[Bool.and_eq_true,decide_eq_true_eq,List.all_eq_true]at this
  exact⟨this.1.1,this.2⟩
 have hb:∀g∈l,∀a∈g.acts,a.title.size≤100∧a.se.size≤60∧∀x∈a.items,fu x=true:=fun g hg a hag=>by
  have:=(ha g hg).2 a hag
  unfold okA at this
  simp only[Bool.and_eq_true,decide_eq_true_eq,List.all_eq_true]at this
  exact⟨this.1.1,this.1.2,this.2⟩
 refine⟨h1,fun g hg=>(ha g hg).1,hz,by rw[JM];exact hz,fun g hg a hag=>⟨?_,fun x hx=>?_⟩,hb⟩
 ·obtain⟨k,hk,rfl⟩:=List.getElem_of_mem hg
  obtain⟨j,hj,rfl⟩:=List.getElem_of_mem hag
  have t1:_+F7 l[k]≤iA l:=vD (f:=F7) (List.getElem?_eq_getElem hk)
  have t2:_+_≤F7 l[k]:=vD (f:=fun a:Ac=>a.items.length) (List.getElem?_eq_getElem hj)
  omega
 ·exact Qt ((((hf g hg).2.2 a hag).2.2.2) x hx) ((hb g hg a hag).2.2 x hx)
def aW (l:List Gz):List Ei:=vP (bn (allA l))
theorem yY (row:List Ac):∀k,((bX row k).map fun a=>a.items.length).sum≤((row.take k).map fun a=>a.items.length).sum
 |0=>by simp[bX]
 |k+1=>by
  have ih:=yY row k
  rw[bX]
  split
  ·rename_i a ha
   rw[ow (f:=fun a:Ac=>a.items.length) ha]
   split
   ·have:=((rY a (bX row k)).map fun a=>a.items.length).sum_nat
    rw[this,List.map_cons,List.sum_cons]
    omega
   ·omega
  ·have:=oD (fun a:Ac=>a.items.length) row (k+1)
   rename_i hn
   rw[List.take_of_length_le (by rw[List.getElem?_eq_none_iff]at hn;omega)]at ih ⊢
   exact ih
theorem bO.BF {l:List Gz} {m:Nat} (h:bO l m):((bn (allA l)).map fun a=>a.items.length).sum≤m:=by
 have h1:=yY (allA l) (allA l).length
 rw[List.take_length]at h1
 exact Nat.le_trans h1 h.num
theorem bO.jI {l:List Gz} {m:Nat} (h:bO l m):(aW l).length≤m:=by
 unfold aW vP
 rw[zC]
 exact h.BF
theorem bO.small {l:List Gz} {m:Nat} (h:bO l m):∀g∈l,SmG g:=fun g hg=>⟨by have:=h.acts g hg;omega,fun a ha=>(h.fit g hg a ha).1⟩
theorem bO.cp {l:List Gz} {m:Nat} (h:bO l m):∀e∈aW l,CpI e.it:=by
 have hg:=nT h.fit
 intro e he
 unfold aW at he
 rw[←zQ]at he
 have he:=(lX _).subset he
 unfold ku iC at he
 obtain⟨p,hp,he⟩:=List.mem_flatMap.1 he
 obtain⟨k,x,hx,rfl⟩:=jg he
 exact (Ec hg (hg.ok p hp)).2 x (List.mem_of_getElem? hx)
theorem bO.items {l:List Gz} {m:Nat} (hm:m≤1000) (h:bO l m):PC Tryz.prog aM 58 [.sl 4 (l.map gzv)] [.sl 28 ((aW l).map eiv)]:=by
 have hl:=h.len
 have hd:=h.BF
 have:=M4 l (by omega) h.small h.fit (by rw[Qg];omega)
 rwa [zQ]at this
theorem bO.aW {l:List Gz} {m:Nat} (hm:m≤1000) (h:bO l m):PC Tryz.prog aM 51 [.sl 4 (l.map gzv)] [.sl 28 ((aW l).map eiv)]:=by
 have hl:=h.len
 have hd:=h.BF
 exact Nw l (by omega) (fun g hg=>by have:=h.acts g hg;omega) (by omega)
end Go.Proofs.YtfjibfdelbodjaaGreat.Po
namespace Go.Proofs.YtfjibfdelbodjaaGreat.Po
open Go Go.Pv Go.RowKit
set_option linter.unusedSimpArgs false
open Lab Lcs Go.Proofs.YtfjibfdelbodjaaGreat Go.Proofs.YtfjibfdelbodjaaGreat.Pu
set_option maxRecDepth 10000
set_option maxHeartbeats 32000000
theorem O5 {n d:Int} {l:List It} {k:Nat} {x:It} (hx:l[k]?=some x):(eH n d 0 l)[k]?=some ⟨n,(k:Nat),d,x⟩:=by
 have h1:=tK (n:=n) (d:=d) hx
 have hk:=(List.getElem?_eq_some_iff.1 hx).1
 have h2:(eH n d 0 (l.take k)).length=k:=by rw[nI,List.length_take];omega
 have h3:eH n d 0 l=eH n d 0 (l.take (k+1))++eH n d (0+(l.take (k+1)).length) (l.drop (k+1)):=by rw[←wR,List.take_append_drop]
 rw[h3,h1,List.append_assoc,List.getElem?_append_right (by omega),h2,Nat.sub_self]
 rfl
theorem KE (a:Ac) (hl:a.items.length≤1000000) (hc:∀x∈a.items,CpI x):PC Tryz.prog aM 81 [acv a] [acv a]:=by
 have hI:=Dx a hl hc
 have hlen:(eiA a).length=a.items.length:=nI a.num a.day a.items 0
 have hml:((eiA a).map eiv).length=a.items.length:=by rw[List.length_map,hlen]
 unfold acv at hI ⊢
 refine PC.aj (T:=MG) ay l8 rfl mixed Tryz.func81 rfl rfl (Nat.le_of_ble_eq_true rfl) ?_;intro Γ C WK LP fin h0 hW hC hB hR hLP hfin
 (try (conv=>whnf));(repeat ((first|refine qT ?_|refine qF ?_|refine qO ?_|(with_reducible intro z hz);(first|(replace hz:=hz (by omega);subst hz)|subst hz)|(refine ah.mk _ (hC _ _ _ (PCw.of hI)) (fun js hjs=>?_);subst hjs));(try (conv=>whnf))))
 refine hLP _ _ _ Nat (fun k=>⟨[(1,.ptr 0 1 0),(2,.ptr 1 1 0),(3,.row 3 1),(7,.imm (.sl 28 ((eiA a).map eiv))),(8,.imm (.int .i64 (a.items.length:Nat))),(9,.imm (.int .i64 (k:Nat)))],[.box 1 [.imm (.int .i64 a.num),.imm (.str a.title),.imm (.int .i64 a.day),.imm (.int .i64 a.sk),.imm (.int .i64 a.sd),.imm (.str a.se),.imm (.sl 25 (a.items.map itv))],.box 1 [.imm (.int .i64 0),.imm (.str ⟨#[]⟩),.imm (.int .i64 0),.imm (.int .i64 0),.imm (.int .i64 0),.imm (.str ⟨#[]⟩),.imm .nil],.dead 0,.row 45 25 1 (((a.items.take k).map itv).map .imm)]⟩) (fun k=>k≤a.items.length) (fun k=>a.items.length - k) 0 (Nat.zero_le _) ((aC.lZ 3 45 25 (Nat.le_of_ble_eq_true rfl) rfl).trans ((aC.row 3 (((a.items.take 0).map itv).map .imm) rfl (by simp)).trans (qSL 4 rfl rfl (hE:=by (repeat ((conv=>whnf);first|exact trivial|refine And.intro (by first|exact av.any|exact av.eq (by with_reducible rfl) rfl|exact av.eq (congrArg (fun z=>PV.imm (IV.int IntKind.i64 z)) (by first|omega|(simp[hml];done)|(simp[hml];omega))) rfl|exact av.eq (by first|(simp[hml];done)|fail) rfl|exact av.eq rfl rfl|exact av.le rfl (ILe.nil _)) ?_)))))) ?_
 intro k hk
 have hho:=Nat.lt_or_ge k a.items.length
 cases hho with
 |inl hlt=>
  obtain⟨x,hx⟩:∃x,a.items[k]?=some x:=⟨a.items[k],List.getElem?_eq_getElem hlt⟩
  have hex:((eiA a).map eiv)[k]?=some (eiv ⟨a.num,(k:Nat),a.day,x⟩):=by rw[List.getElem?_map];unfold eiA;rw[O5 hx];rfl
  have hst:=take_at hx
  have hrl:(((a.items.take k).map itv).map PV.imm).length≤k:=by
   rw[List.length_map,List.length_map,List.length_take];omega
  generalize a.items.take k=R at *
  (try (conv=>whnf));(repeat ((first|refine qT ?_|refine qF ?_|refine qO ?_|(with_reducible intro z hz);(first|(replace hz:=hz (by omega);subst hz)|subst hz));(try (conv=>whnf))))
  refine Idx.mk k (eiv ⟨a.num,(k:Nat),a.day,x⟩) _ rfl hex (by rw[fq]) ?_
  (try (conv=>whnf));(repeat ((first|refine qT ?_|refine qF ?_|refine qO ?_|(with_reducible intro z hz);(first|(replace hz:=hz (by omega);subst hz)|subst hz));(try (conv=>whnf))))
  refine Owe.mk (by first|(show _+1≤most;unfold most;omega)|(refine Or.inl ?_;show _+1≤most;unfold most;omega)) ?_
  (try (conv=>whnf));(repeat ((first|refine qT ?_|refine qF ?_|refine qO ?_|(with_reducible intro z hz);(first|(replace hz:=hz (by omega);subst hz)|subst hz));(try (conv=>whnf))))
  refine⟨k+1,by omega,by dsimp only;omega,?_⟩
  dsimp only[]
  rw[hst]
  exact ((aC.row 3 (((R++[x]).map itv).map .imm) rfl (by simp[aR]))).trans ((aC.renew 3 1 rfl (by first|omega|(intro _;rw[hk0 _ _ rfl];exact Nat.le_of_ble_eq_true rfl)) (by repeat (first|exact trivial|refine And.intro (bA _ _ _ _) ?_|refine And.intro rfl ?_))).trans (qSL 4 rfl rfl))
 |inr hge=>
  obtain rfl:k=a.items.length:=by omega
  rw[List.take_length]
  (try (conv=>whnf));(repeat ((first|refine qT ?_|refine qF ?_|refine qO ?_|(with_reducible intro z hz);(first|(replace hz:=hz (by omega);subst hz)|subst hz));(try (conv=>whnf))))
  refine bN.mk (a.items.map itv) rfl ?_
  (try (conv=>whnf));(repeat ((first|refine qT ?_|refine qF ?_|refine qO ?_|(with_reducible intro z hz);(first|(replace hz:=hz (by omega);subst hz)|subst hz));(try (conv=>whnf))))
  exact hfin _ (aA.refl _)
end Go.Proofs.YtfjibfdelbodjaaGreat.Po
namespace Go.Proofs.YtfjibfdelbodjaaGreat.Po
open Go Go.Pv Go.RowKit
set_option linter.unusedSimpArgs false
open Lab Lcs Go.Proofs.YtfjibfdelbodjaaGreat Go.Proofs.YtfjibfdelbodjaaGreat.Pu
set_option maxRecDepth 10000
set_option maxHeartbeats 32000000
def UN (r:Rg) (n i:Int):Option Ei:=match aP r.acts n with
 |none=>none
 |some a=>if 0≤i then (match a.items[i.toNat]? with
  |none=>none
  |some x=>some ⟨n,i,a.day,mF r.cors a.num i x⟩) else none
end Go.Proofs.YtfjibfdelbodjaaGreat.Po
namespace Go.Proofs.YtfjibfdelbodjaaGreat.Po
open Go Go.Pv Go.RowKit
set_option linter.unusedSimpArgs false
open Lab Lcs Go.Proofs.YtfjibfdelbodjaaGreat Go.Proofs.YtfjibfdelbodjaaGreat.Pu
set_option maxRecDepth 10000
set_option maxHeartbeats 32000000
theorem Uo {κ ν:Type} [DecidableEq κ] {k:κ} {v:ν}:∀{m:List (κ×ν)},(m.map Prod.fst).Nodup→(k,v)∈m→aP m k=some v
 |[],_,h=>by cases h
 |p::m,hn,h=>by
  rw[List.map_cons,List.nodup_cons]at hn
  rcases List.mem_cons.1 h with h1|h
  ·rw[←h1];simp[aP]
  ·have hne:¬p.1=k:=fun e=>hn.1 (by rw[e];exact List.mem_map_of_mem (f:=Prod.fst) h)
   have:=Uo hn.2 h
   unfold aP
   simp[hne,this]
theorem Um (m:eT) (n:Int):∀(l:List It) (j k:Nat),(lD m n j l)[k]?=(l[k]?).map (mF m n ((j+k:Nat):Int))
 |[],_,_=>by simp[lD]
 |x::l,j,0=>by simp[lD]
 |x::l,j,k+1=>by
  rw[lD,List.getElem?_cons_succ,List.getElem?_cons_succ,Um m n l (j+1) k,show j+1+k=j+(k+1) by omega]
def UZ (d:List Ei) (n i:Int):Option Ei:=d.find? fun e=>decide (e.act=n)&&decide (e.item=i)
theorem Ug {Q:Ac→Prop} {r:Rg} (h:jE Q r) (n i:Int) (e:Ei):UN r n i=some e↔e∈ku r∧e.act=n∧e.item=i:=by
 constructor
 ·intro hf
  unfold UN at hf
  cases hl:aP r.acts n with
  |none=>rw[hl]at hf;cases hf
  |some a=>
   rw[hl]at hf
   dsimp only at hf
   by_cases h0:0≤i
   ·rw[if_pos h0]at hf
    cases hx:a.items[i.toNat]? with
    |none=>rw[hx]at hf;cases hf
    |some x=>
     rw[hx]at hf
     have hm:=zA hl
     have hn:=h.key _ hm
     simp only at hn
     injection hf with hf
     subst hf
     refine⟨?_,rfl,rfl⟩
     unfold ku iC
     refine List.mem_flatMap.2 ⟨_,hm,?_⟩
     have hxi:(rO r.cors a).items[i.toNat]?=some (mF r.cors a.num i x):=by
      unfold rO
      dsimp only
      rw[Um,hx,Nat.zero_add,Int.toNat_of_nonneg h0];rfl
     have:=Vd hxi
     rw[Int.toNat_of_nonneg h0]at this
     rw[hn]
     exact this
   ·rw[if_neg h0]at hf;cases hf
 ·rintro⟨he,rfl,rfl⟩
  unfold ku iC at he
  obtain⟨p,hp,he⟩:=List.mem_flatMap.1 he
  obtain⟨k,y,hy,rfl⟩:=jg he
  have hk:=h.key p hp
  have hl:aP r.acts p.2.num=some p.2:=Uo h.nodup (by rw[←hk];exact hp)
  unfold rO at hy ⊢
  dsimp only at hy ⊢
  rw[Um,Nat.zero_add]at hy
  cases hx:p.2.items[k]? with
  |none=>rw[hx]at hy;cases hy
  |some x=>
   rw[hx]at hy
   injection hy with hy
   unfold UN
   rw[hl]
   dsimp only
   rw[if_pos (Int.natCast_nonneg k),Int.toNat_natCast,hx]
   dsimp only
   rw[hy]
theorem UH {Q:Ac→Prop} {r:Rg} (h:jE Q r) {x y:Ei} (hx:x∈ku r) (hy:y∈ku r) (h1:x.act=y.act) (h2:x.item=y.item):x=y:=by
 have a:=(Ug h y.act y.item x).2 ⟨hx,h1,h2⟩
 have b:=(Ug h y.act y.item y).2 ⟨hy,rfl,rfl⟩
 rw[a]at b
 injection b
theorem UG {d:List Ei} (hu:∀x∈d,∀y∈d,x.act=y.act→x.item=y.item→x=y) (n i:Int) (e:Ei):UZ d n i=some e↔e∈d∧e.act=n∧e.item=i:=by
 unfold UZ
 constructor
 ·intro h
  have h1:=List.find?_some h
  have h2:=List.mem_of_find?_eq_some h
  simp only[Bool.and_eq_true,decide_eq_true_eq]at h1
  exact⟨h2,h1⟩
 ·rintro⟨h1,h2,h3⟩
  cases hf:d.find? fun e=>decide (e.act=n)&&decide (e.item=i) with
  |none=>
   have:=List.find?_eq_none.1 hf e h1
   simp[h2,h3]at this
  |some x=>
   have h4:=List.find?_some hf
   have h5:=List.mem_of_find?_eq_some hf
   simp only[Bool.and_eq_true,decide_eq_true_eq]at h4
   rw[hu x h5 e h1 (by rw[h4.1,h2]) (by rw[h4.2,h3])]
theorem Uz (l:List Gz):(aW l).Perm (ku (lG l)):=by
 unfold aW
 rw[←zQ]
 exact lX _
theorem Ki (l:List Gz) (k:Nat):iA (l.take k)≤iA l:=by
 unfold iA
 exact oD _ _ _
theorem bO.of {l l':List Gz} {m:Nat} (h:bO l m) (hs:∀g∈l',g∈l) (hl:l'.length≤8) (hn:iA l'≤m):bO l' m:=
 ⟨hl,fun g hg=>h.acts g (hs g hg),hn,by rw[JM];exact hn,fun g hg=>h.fit g (hs g hg),fun g hg=>h.all g (hs g hg)⟩
theorem bO.take {l:List Gz} {m:Nat} (h:bO l m) (k:Nat):bO (l.take k) m:=
 h.of (fun g hg=>List.take_subset _ _ hg) (by rw[List.length_take];have:=h.len;omega) (by have:=Ki l k;have:=h.cnt;omega)
theorem bO.hs {l:List Gz} {m:Nat} (h:bO l m) (n:Int):∀a,aP (lG l).acts n=some a→a.items.length≤1000000:=fun _ ha=>
 ((nT h.fit).ok _ (zA ha)).1
end Go.Proofs.YtfjibfdelbodjaaGreat.Po
