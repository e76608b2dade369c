/-
  Corpus: small gazettes; the law of enacted items. Corpus: copies of acts and items; the item of a reference, by the program. Corpus: the item of a reference, by the program. Corpus: the item of a reference, by the program and by the reference.
-/
import Derived.Test.YtfjibfdelbodjaaGreatHy
namespace Go.Proofs.YtfjibfdelbodjaaGreat.Po
open Go Go.Pv Go.RowKit
set_option linter.unusedSimpArgs false
open Lab Lcs Go.Proofs.YtfjibfdelbodjaaGreat Go.Proofs.YtfjibfdelbodjaaGreat.Pu
set_option maxRecDepth 10000
set_option maxHeartbeats 32000000
theorem xO {w:List Wd} (h:kM w=true):w.length≤300:=by
 unfold kM at h
 simp only[Bool.and_eq_true,decide_eq_true_eq]at h
 exact h.2
theorem KV (N:Nat):∀u:Ut,u.count≤N→N≤1000→u.all.all uY=true→CpU u:=by
 induction N with
 |zero=>intro u h;have:=ou u;omega
 |succ N ih=>
 intro u hN hN2 hall
 have hcu:=Ut.count_eq u
 have hkl:=j3 u.kids
 have h:=hall
 rw[all_cons,Bool.and_eq_true]at h
 obtain⟨h1,h2⟩:=h
 unfold uY at h1
 simp only[Bool.and_eq_true]at h1
 have g1:=xO h1.1.2
 have g2:=xO h1.2
 refine .mk u ⟨by omega,by omega,by omega⟩ fun x hx=>?_
 rw[x9,List.all_eq_true]at h2
 obtain⟨k,hk,rfl⟩:=List.getElem_of_mem hx
 have hkc:=BP (List.getElem?_eq_getElem hk)
 exact ih _ (by omega) (by omega) (h2 _ (List.getElem_mem _))
theorem Ij {x:It} (h:fC x=true):x.p.length≤12∧x.q.length≤12∧x.old.length≤300∧x.new.length≤300∧x.bys.length≤2∧x.fr.size≤100∧x.se.size≤100∧x.ev.size≤100∧Hr x.unit 30=true∧je x.bys=true:=by
 rw[Kg]at h
 simp only[Bool.and_eq_true]at h
 obtain⟨h1,_,_,_,_,h2⟩:=h
 unfold dY at h1
 simp only[Bool.and_eq_true,decide_eq_true_eq]at h1
 obtain⟨⟨a1,a2,a3,a4,a5,a6,a7,a8,a9⟩,a10⟩:=h1
 exact⟨a1,a2,a3,a4,a9,a6,a7,a8,a10,h2⟩
theorem Bh:∀{l:List It},je l=true→∀x∈l,fC x=true
 |[],_,_,h=>by cases h
 |y::l,h,x,hx=>by
  rw[je,Bool.and_eq_true,Bool.and_eq_true]at h
  rcases List.mem_cons.1 hx with rfl|hx
  ·exact h.1.2
  ·exact Bh h.2 x hx
theorem QI {x:It} (hf:wU x):fC x=true→CpI x:=by
 induction hf with
 |mk x hu h1 hb ih=>
 intro h
 obtain⟨a1,a2,a3,a4,a5,_,_,_,a6,a7⟩:=Ij h
 obtain⟨s1,s2,s3⟩:=Lc (m:=30) a6
 exact .mk x (KV 30 x.unit s1 (by omega) s3) ⟨by omega,by omega,by omega,by omega,by omega⟩ fun y hy=>ih y hy (Bh a7 y hy)
structure bH (l:List Gz) (m:Nat):Prop where
 len:l.length≤8
 acts:∀g∈l,g.acts.length≤8
 cnt:iL l≤m
 num:gN (allA l)≤m
 fit:∀g∈l,∀a∈g.acts,y9 a
 all:∀g∈l,∀a∈g.acts,a.title.size≤100∧a.se.size≤60∧∀x∈a.items,fC x=true
theorem KO (l:List Gz):gN (allA l)=iL l:=by
 unfold gN iL allA
 induction l with
 |nil=>rfl
 |cons g l ih=>
  rw[List.flatMap_cons,List.map_append,List.sum_append,ih,List.map_cons,List.sum_cons]
  rfl
theorem J5 {l:List Gz} {m:Nat} (hm:m≤1000) (hf:∀g∈l,Kl g) (h:xR l m=true):bH l m:=by
 unfold xR at h
 simp only[Bool.and_eq_true,decide_eq_true_eq]at h
 obtain⟨h1,h2,h3⟩:=h
 rw[List.all_eq_true]at h2
 have hz:iL l≤m:=by omega
 have ha:∀g∈l,g.acts.length≤8∧∀a∈g.acts,okA a=true:=fun g hg=>by
  have:=h2 g hg
  unfold okG at this
  simp only[Bool.and_eq_true,decide_eq_true_eq,List.all_eq_true]at this
  exact⟨this.1.1,this.2⟩
 have hb:∀g∈l,∀a∈g.acts,a.title.size≤100∧a.se.size≤60∧∀x∈a.items,fC x=true:=fun g hg a hag=>by
  have:=(ha g hg).2 a hag
  unfold okA at this
  simp only[Bool.and_eq_true,decide_eq_true_eq,List.all_eq_true]at this
  exact⟨this.1.1,this.1.2,this.2⟩
 refine⟨h1,fun g hg=>(ha g hg).1,hz,by rw[KO];exact hz,fun g hg a hag=>⟨?_,fun x hx=>?_⟩,hb⟩
 ·obtain⟨k,hk,rfl⟩:=List.getElem_of_mem hg
  obtain⟨j,hj,rfl⟩:=List.getElem_of_mem hag
  have t1:_+EM l[k]≤iL l:=vR (f:=EM) (List.getElem?_eq_getElem hk)
  have t2:_+_≤EM l[k]:=vR (f:=fun a:Ac=>a.items.length) (List.getElem?_eq_getElem hj)
  omega
 ·exact QI ((((hf g hg).2.2 a hag).2.2.2) x hx) ((hb g hg a hag).2.2 x hx)
def aP (l:List Gz):List Ei:=uH (bn (allA l))
theorem zl (row:List Ac):∀k,((bW row k).map fun a=>a.items.length).sum≤((row.take k).map fun a=>a.items.length).sum
 |0=>by simp[bW]
 |k+1=>by
  have ih:=zl row k
  rw[bW]
  split
  ·rename_i a ha
   rw[pz (f:=fun a:Ac=>a.items.length) ha]
   split
   ·have:=((sW a (bW row k)).map fun a=>a.items.length).sum_nat
    rw[this,List.map_cons,List.sum_cons]
    omega
   ·omega
  ·have:=o7 (fun a:Ac=>a.items.length) row (k+1)
   rename_i hn
   rw[List.take_of_length_le (by rw[List.getElem?_eq_none_iff]at hn;omega)]at ih ⊢
   exact ih
theorem bH.BK {l:List Gz} {m:Nat} (h:bH l m):((bn (allA l)).map fun a=>a.items.length).sum≤m:=by
 have h1:=zl (allA l) (allA l).length
 rw[List.take_length]at h1
 exact Nat.le_trans h1 h.num
theorem bH.dI {l:List Gz} {m:Nat} (h:bH l m):(aP l).length≤m:=by
 unfold aP uH
 rw[zZ]
 exact h.BK
theorem bH.small {l:List Gz} {m:Nat} (h:bH l m):∀g∈l,SmG g:=fun g hg=>⟨by have:=h.acts g hg;omega,fun a ha=>(h.fit g hg a ha).1⟩
theorem bH.cp {l:List Gz} {m:Nat} (h:bH l m):∀e∈aP l,CpI e.it:=by
 have hg:=lN h.fit
 intro e he
 unfold aP at he
 rw[←sj]at he
 have he:=(jK _).subset he
 unfold fV gG at he
 obtain⟨p,hp,he⟩:=List.mem_flatMap.1 he
 obtain⟨k,x,hx,rfl⟩:=iC he
 exact (ED hg (hg.ok p hp)).2 x (List.mem_of_getElem? hx)
theorem bH.items {l:List Gz} {m:Nat} (hm:m≤1000) (h:bH l m):PC Tryz.prog aM 58 [.sl 4 (l.map gzv)] [.sl 28 ((aP l).map eiv)]:=by
 have hl:=h.len
 have hd:=h.BK
 have:=Qi l (by omega) h.small h.fit (by rw[RO];omega)
 rwa [sj]at this
theorem bH.aP {l:List Gz} {m:Nat} (hm:m≤1000) (h:bH l m):PC Tryz.prog aM 51 [.sl 4 (l.map gzv)] [.sl 28 ((aP l).map eiv)]:=by
 have hl:=h.len
 have hd:=h.BK
 exact Nk l (by omega) (fun g hg=>by have:=h.acts g hg;omega) (by omega)
end Go.Proofs.YtfjibfdelbodjaaGreat.Po
namespace Go.Proofs.YtfjibfdelbodjaaGreat.Po
open Go Go.Pv Go.RowKit
set_option linter.unusedSimpArgs false
open Lab Lcs Go.Proofs.YtfjibfdelbodjaaGreat Go.Proofs.YtfjibfdelbodjaaGreat.Pu
set_option maxRecDepth 10000
set_option maxHeartbeats 32000000
theorem PL {n d:Int} {l:List It} {k:Nat} {x:It} (hx:l[k]?=some x):(d9 n d 0 l)[k]?=some ⟨n,(k:Nat),d,x⟩:=by
 have h1:=um (n:=n) (d:=d) hx
 have hk:=(List.getElem?_eq_some_iff.1 hx).1
 have h2:(d9 n d 0 (l.take k)).length=k:=by rw[ni,List.length_take];omega
 have h3:d9 n d 0 l=d9 n d 0 (l.take (k+1))++d9 n d (0+(l.take (k+1)).length) (l.drop (k+1)):=by rw[←vX,List.take_append_drop]
 rw[h3,h1,List.append_assoc,List.getElem?_append_right (by omega),h2,Nat.sub_self]
 rfl
theorem LQ (a:Ac) (hl:a.items.length≤1000000) (hc:∀x∈a.items,CpI x):PC Tryz.prog aM 81 [acv a] [acv a]:=by
 have hI:=Gj a hl hc
 have hlen:(eiA a).length=a.items.length:=ni a.num a.day a.items 0
 have hml:((eiA a).map eiv).length=a.items.length:=by rw[List.length_map,hlen]
 unfold acv at hI ⊢
 refine PC.ak (T:=MI) aB kP rfl mixed Tryz.func81 rfl rfl (Nat.le_of_ble_eq_true rfl) ?_;intro Γ C WK LP fin h0 hW hC hB hR hLP hfin
 (try (conv=>whnf));(repeat ((first|refine qT ?_|refine qF ?_|refine qO ?_|(with_reducible intro z hz);(first|(replace hz:=hz (by omega);subst hz)|subst hz)|(refine ah.mk _ (hC _ _ _ (PCw.of hI)) (fun js hjs=>?_);subst hjs));(try (conv=>whnf))))
 refine hLP _ _ _ Nat (fun k=>⟨[(1,.ptr 0 1 0),(2,.ptr 1 1 0),(3,.row 3 1),(7,.imm (.sl 28 ((eiA a).map eiv))),(8,.imm (.int .i64 (a.items.length:Nat))),(9,.imm (.int .i64 (k:Nat)))],[.box 1 [.imm (.int .i64 a.num),.imm (.str a.title),.imm (.int .i64 a.day),.imm (.int .i64 a.sk),.imm (.int .i64 a.sd),.imm (.str a.se),.imm (.sl 25 (a.items.map itv))],.box 1 [.imm (.int .i64 0),.imm (.str ⟨#[]⟩),.imm (.int .i64 0),.imm (.int .i64 0),.imm (.int .i64 0),.imm (.str ⟨#[]⟩),.imm .nil],.dead 0,.row 45 25 1 (((a.items.take k).map itv).map .imm)]⟩) (fun k=>k≤a.items.length) (fun k=>a.items.length - k) 0 (Nat.zero_le _) ((aA.lX 3 45 25 (Nat.le_of_ble_eq_true rfl) rfl).trans ((aA.row 3 (((a.items.take 0).map itv).map .imm) rfl (by simp)).trans (qSL 4 rfl rfl (hE:=by (repeat ((conv=>whnf);first|exact trivial|refine And.intro (by first|exact aj.any|exact aj.eq (by with_reducible rfl) rfl|exact aj.eq (congrArg (fun z=>PV.imm (IV.int IntKind.i64 z)) (by first|omega|(simp[hml];done)|(simp[hml];omega))) rfl|exact aj.eq (by first|(simp[hml];done)|fail) rfl|exact aj.eq rfl rfl|exact aj.le rfl (ILe.nil _)) ?_)))))) ?_
 intro k hk
 have hho:=Nat.lt_or_ge k a.items.length
 cases hho with
 |inl hlt=>
  obtain⟨x,hx⟩:∃x,a.items[k]?=some x:=⟨a.items[k],List.getElem?_eq_getElem hlt⟩
  have hex:((eiA a).map eiv)[k]?=some (eiv ⟨a.num,(k:Nat),a.day,x⟩):=by rw[List.getElem?_map];unfold eiA;rw[PL hx];rfl
  have hst:=take_at hx
  have hrl:(((a.items.take k).map itv).map PV.imm).length≤k:=by
   rw[List.length_map,List.length_map,List.length_take];omega
  generalize a.items.take k=R at *
  (try (conv=>whnf));(repeat ((first|refine qT ?_|refine qF ?_|refine qO ?_|(with_reducible intro z hz);(first|(replace hz:=hz (by omega);subst hz)|subst hz));(try (conv=>whnf))))
  refine Idx.mk k (eiv ⟨a.num,(k:Nat),a.day,x⟩) _ rfl hex (by rw[fD]) ?_
  (try (conv=>whnf));(repeat ((first|refine qT ?_|refine qF ?_|refine qO ?_|(with_reducible intro z hz);(first|(replace hz:=hz (by omega);subst hz)|subst hz));(try (conv=>whnf))))
  refine Owe.mk (by first|(show _+1≤most;unfold most;omega)|(refine Or.inl ?_;show _+1≤most;unfold most;omega)) ?_
  (try (conv=>whnf));(repeat ((first|refine qT ?_|refine qF ?_|refine qO ?_|(with_reducible intro z hz);(first|(replace hz:=hz (by omega);subst hz)|subst hz));(try (conv=>whnf))))
  refine⟨k+1,by omega,by dsimp only;omega,?_⟩
  dsimp only[]
  rw[hst]
  exact ((aA.row 3 (((R++[x]).map itv).map .imm) rfl (by simp[aT]))).trans ((aA.renew 3 1 rfl (by first|omega|(intro _;rw[hk0 _ _ rfl];exact Nat.le_of_ble_eq_true rfl)) (by repeat (first|exact trivial|refine And.intro (aY _ _ _ _) ?_|refine And.intro rfl ?_))).trans (qSL 4 rfl rfl))
 |inr hge=>
  obtain rfl:k=a.items.length:=by omega
  rw[List.take_length]
  (try (conv=>whnf));(repeat ((first|refine qT ?_|refine qF ?_|refine qO ?_|(with_reducible intro z hz);(first|(replace hz:=hz (by omega);subst hz)|subst hz));(try (conv=>whnf))))
  refine bK.mk (a.items.map itv) rfl ?_
  (try (conv=>whnf));(repeat ((first|refine qT ?_|refine qF ?_|refine qO ?_|(with_reducible intro z hz);(first|(replace hz:=hz (by omega);subst hz)|subst hz));(try (conv=>whnf))))
  exact hfin _ (ay.refl _)
end Go.Proofs.YtfjibfdelbodjaaGreat.Po
namespace Go.Proofs.YtfjibfdelbodjaaGreat.Po
open Go Go.Pv Go.RowKit
set_option linter.unusedSimpArgs false
open Lab Lcs Go.Proofs.YtfjibfdelbodjaaGreat Go.Proofs.YtfjibfdelbodjaaGreat.Pu
set_option maxRecDepth 10000
set_option maxHeartbeats 32000000
def MS (r:Rg) (n i:Int):Option Ei:=match aO r.acts n with
 |none=>none
 |some a=>if 0≤i then (match a.items[i.toNat]? with
  |none=>none
  |some x=>some ⟨n,i,a.day,kR r.cors a.num i x⟩) else none
def RV:Option Ei→IV
 |none=>QV
 |some e=>eiv e
end Go.Proofs.YtfjibfdelbodjaaGreat.Po
namespace Go.Proofs.YtfjibfdelbodjaaGreat.Po
open Go Go.Pv Go.RowKit
set_option linter.unusedSimpArgs false
open Lab Lcs Go.Proofs.YtfjibfdelbodjaaGreat Go.Proofs.YtfjibfdelbodjaaGreat.Pu
set_option maxRecDepth 10000
set_option maxHeartbeats 32000000
theorem EC {κ ν:Type} [DecidableEq κ] {k:κ} {v:ν}:∀{m:List (κ×ν)},(m.map Prod.fst).Nodup→(k,v)∈m→aO m k=some v
 |[],_,h=>by cases h
 |p::m,hn,h=>by
  rw[List.map_cons,List.nodup_cons]at hn
  rcases List.mem_cons.1 h with h1|h
  ·rw[←h1];simp[aO]
  ·have hne:¬p.1=k:=fun e=>hn.1 (by rw[e];exact List.mem_map_of_mem (f:=Prod.fst) h)
   have:=EC hn.2 h
   unfold aO
   simp[hne,this]
theorem BM (m:eX) (n:Int):∀(l:List It) (j k:Nat),(jr m n j l)[k]?=(l[k]?).map (kR m n ((j+k:Nat):Int))
 |[],_,_=>by simp[jr]
 |x::l,j,0=>by simp[jr]
 |x::l,j,k+1=>by
  rw[jr,List.getElem?_cons_succ,List.getElem?_cons_succ,BM m n l (j+1) k,show j+1+k=j+(k+1) by omega]
def gV (d:List Ei) (n i:Int):Option Ei:=d.find? fun e=>decide (e.act=n)&&decide (e.item=i)
theorem Ba {Q:Ac→Prop} {r:Rg} (h:iO Q r) (n i:Int) (e:Ei):MS r n i=some e↔e∈fV r∧e.act=n∧e.item=i:=by
 constructor
 ·intro hf
  unfold MS at hf
  cases hl:aO r.acts n with
  |none=>rw[hl]at hf;cases hf
  |some a=>
   rw[hl]at hf
   dsimp only at hf
   by_cases h0:0≤i
   ·rw[if_pos h0]at hf
    cases hx:a.items[i.toNat]? with
    |none=>rw[hx]at hf;cases hf
    |some x=>
     rw[hx]at hf
     have hm:=uh hl
     have hn:=h.key _ hm
     simp only at hn
     injection hf with hf
     subst hf
     refine⟨?_,rfl,rfl⟩
     unfold fV gG
     refine List.mem_flatMap.2 ⟨_,hm,?_⟩
     have hxi:(pR r.cors a).items[i.toNat]?=some (kR r.cors a.num i x):=by
      unfold pR
      dsimp only
      rw[BM,hx,Nat.zero_add,Int.toNat_of_nonneg h0];rfl
     have:=Sz hxi
     rw[Int.toNat_of_nonneg h0]at this
     rw[hn]
     exact this
   ·rw[if_neg h0]at hf;cases hf
 ·rintro⟨he,rfl,rfl⟩
  unfold fV gG at he
  obtain⟨p,hp,he⟩:=List.mem_flatMap.1 he
  obtain⟨k,y,hy,rfl⟩:=iC he
  have hk:=h.key p hp
  have hl:aO r.acts p.2.num=some p.2:=EC h.nodup (by rw[←hk];exact hp)
  unfold pR at hy ⊢
  dsimp only at hy ⊢
  rw[BM,Nat.zero_add]at hy
  cases hx:p.2.items[k]? with
  |none=>rw[hx]at hy;cases hy
  |some x=>
   rw[hx]at hy
   injection hy with hy
   unfold MS
   rw[hl]
   dsimp only
   rw[if_pos (Int.natCast_nonneg k),Int.toNat_natCast,hx]
   dsimp only
   rw[hy]
theorem LA {Q:Ac→Prop} {r:Rg} (h:iO Q r) {x y:Ei} (hx:x∈fV r) (hy:y∈fV r) (h1:x.act=y.act) (h2:x.item=y.item):x=y:=by
 have a:=(Ba h y.act y.item x).2 ⟨hx,h1,h2⟩
 have b:=(Ba h y.act y.item y).2 ⟨hy,rfl,rfl⟩
 rw[a]at b
 injection b
theorem ML {d:List Ei} (hu:∀x∈d,∀y∈d,x.act=y.act→x.item=y.item→x=y) (n i:Int) (e:Ei):gV d n i=some e↔e∈d∧e.act=n∧e.item=i:=by
 unfold gV
 constructor
 ·intro h
  have h1:=List.find?_some h
  have h2:=List.mem_of_find?_eq_some h
  simp only[Bool.and_eq_true,decide_eq_true_eq]at h1
  exact⟨h2,h1⟩
 ·rintro⟨h1,h2,h3⟩
  cases hf:d.find? fun e=>decide (e.act=n)&&decide (e.item=i) with
  |none=>
   have:=List.find?_eq_none.1 hf e h1
   simp[h2,h3]at this
  |some x=>
   have h4:=List.find?_some hf
   have h5:=List.mem_of_find?_eq_some hf
   simp only[Bool.and_eq_true,decide_eq_true_eq]at h4
   rw[hu x h5 e h1 (by rw[h4.1,h2]) (by rw[h4.2,h3])]
theorem Ht (l:List Gz):(aP l).Perm (fV (lC l)):=by
 unfold aP
 rw[←sj]
 exact jK _
theorem KZ (l:List Gz) (k:Nat):iL (l.take k)≤iL l:=by
 unfold iL
 exact o7 _ _ _
theorem bH.of {l l':List Gz} {m:Nat} (h:bH l m) (hs:∀g∈l',g∈l) (hl:l'.length≤8) (hn:iL l'≤m):bH l' m:=
 ⟨hl,fun g hg=>h.acts g (hs g hg),hn,by rw[KO];exact hn,fun g hg=>h.fit g (hs g hg),fun g hg=>h.all g (hs g hg)⟩
theorem bH.take {l:List Gz} {m:Nat} (h:bH l m) (k:Nat):bH (l.take k) m:=
 h.of (fun g hg=>List.take_subset _ _ hg) (by rw[List.length_take];have:=h.len;omega) (by have:=KZ l k;have:=h.cnt;omega)
theorem bH.hs {l:List Gz} {m:Nat} (h:bH l m) (n:Int):∀a,aO (lC l).acts n=some a→a.items.length≤1000000:=fun _ ha=>
 ((lN h.fit).ok _ (uh ha)).1
theorem G8 {d:List Ei} {n i:Int} {k:Nat} {e:Ei} (he:d[k]?=some e) (hn:gV (d.take k) n i=none):gV (d.take (k+1)) n i=(if e.act=n∧e.item=i then some e else none):=by
 unfold gV at *
 rw[take_at he,List.find?_append,hn,Option.none_or,List.find?_singleton]
 by_cases h:e.act=n∧e.item=i
 ·simp[h.1,h.2]
 ·rw[if_neg h]
  simp only[Bool.and_eq_true,decide_eq_true_eq,if_neg h]
theorem LH {d:List Ei} {n i:Int} {k:Nat} {e:Ei} (h:gV (d.take k) n i=some e):gV d n i=some e:=by
 unfold gV at *
 rw[←List.take_append_drop k d,List.find?_append,h]
 rfl
abbrev UO:Blk:=.box 1 [.imm (.int .i64 0),.imm (.int .i64 0),.imm (.int .i64 0),.imm (.int .i64 0),.imm .nil,.imm .nil,.imm (.int .i64 0),.imm (.int .i64 0),.imm (.int .i64 0),.imm (.int .i64 0),.imm (.int .i64 0),.imm (.int .i64 0),.imm (.str ⟨#[]⟩),.imm .nil,.imm .nil,.imm .nil,.imm .nil,.imm .nil,.imm (.str ⟨#[]⟩),.imm (.str ⟨#[]⟩),.imm (.int .i64 0),.imm (.int .i64 0),.imm (.str ⟨#[]⟩),.imm (.int .i64 0),.imm (.int .i64 0),.imm (.int .i64 0),.imm (.str ⟨#[]⟩),.imm .nil]
theorem Ip (d:List Ei) (L:List IV) (n i:Int) (hd:d.length≤1000000) (hD:PC Tryz.prog aM 51 L [.sl 28 (d.map eiv)]) (hL:L.length=1):PC Tryz.prog aM 36 (.int .i64 n::.int .i64 i::L) [RV (gV d n i),.bool (gV d n i).isSome]:=by
 obtain⟨g,rfl⟩:∃g,L=[g]:=List.length_eq_one_iff.1 hL
 have hml:(d.map eiv).length=d.length:=List.length_map _
 refine PC.ak (T:=MI) aB kP rfl mixed Tryz.func36 rfl rfl (Nat.le_of_ble_eq_true rfl) ?_;intro Γ C WK LP fin h0 hW hC hB hR hLP hfin
 (try (conv=>whnf));(repeat ((first|refine qT ?_|refine qF ?_|refine qO ?_|(with_reducible intro z hz);(first|(replace hz:=hz (by omega);subst hz)|subst hz)|(refine ah.mk _ (hC _ _ _ (PCw.of hD)) (fun js hjs=>?_);subst hjs));(try (conv=>whnf))))
 refine hLP _ _ _ Nat (fun k=>⟨[(0,.imm (.int .i64 n)),(1,.imm (.int .i64 i)),(6,.ptr 0 1 0),(7,.imm (.bool false)),(8,.imm (.sl 28 (d.map eiv))),(9,.imm (.int .i64 (k:Nat)))],[UO]⟩) (fun k=>k≤d.length∧gV (d.take k) n i=none) (fun k=>d.length - k) 0 ⟨Nat.zero_le _,by simp[gV]⟩ (qSL 1 rfl rfl) ?_
 rintro k ⟨hk,hno⟩
 have hho:=Nat.lt_or_ge k d.length
 cases hho with
 |inl hlt=>
  obtain⟨e,he⟩:∃e,d[k]?=some e:=⟨d[k],List.getElem?_eq_getElem hlt⟩
  have hst:=G8 he hno
  by_cases hn:e.act=n
  ·by_cases hi:e.item=i
   ·rw[if_pos ⟨hn,hi⟩]at hst
    rw[LH hst]at hfin
    (try (conv=>whnf));(repeat ((first|refine qT ?_|refine qF ?_|refine qO ?_|(with_reducible intro z hz);(first|(replace hz:=hz (by omega);subst hz)|subst hz));(try (conv=>whnf))))
    refine Idx.mk k (eiv e) _ rfl (by simp[he]) rfl ?_
    (try (conv=>whnf));(repeat ((first|refine qT ?_|refine qF ?_|refine qO ?_|(with_reducible intro z hz);(first|(replace hz:=hz (by omega);subst hz)|subst hz));(try (conv=>whnf))))
    refine Idx.mk k (eiv e) _ rfl (by simp[he]) rfl ?_
    (try (conv=>whnf));(repeat ((first|refine qT ?_|refine qF ?_|refine qO ?_|(with_reducible intro z hz);(first|(replace hz:=hz (by omega);subst hz)|subst hz));(try (conv=>whnf))))
    refine Idx.mk k (eiv e) _ rfl (by simp[he]) rfl ?_
    (try (conv=>whnf));(repeat ((first|refine qT ?_|refine qF ?_|refine qO ?_|(with_reducible intro z hz);(first|(replace hz:=hz (by omega);subst hz)|subst hz));(try (conv=>whnf))))
    exact hfin _ (ay.refl _)
   ·rw[if_neg fun h=>hi h.2]at hst
    (try (conv=>whnf));(repeat ((first|refine qT ?_|refine qF ?_|refine qO ?_|(with_reducible intro z hz);(first|(replace hz:=hz (by omega);subst hz)|subst hz));(try (conv=>whnf))))
    refine Idx.mk k (eiv e) _ rfl (by simp[he]) rfl ?_
    (try (conv=>whnf));(repeat ((first|refine qT ?_|refine qF ?_|refine qO ?_|(with_reducible intro z hz);(first|(replace hz:=hz (by omega);subst hz)|subst hz));(try (conv=>whnf))))
    refine Idx.mk k (eiv e) _ rfl (by simp[he]) rfl ?_
    (try (conv=>whnf));(repeat ((first|refine qT ?_|refine qF ?_|refine qO ?_|(with_reducible intro z hz);(first|(replace hz:=hz (by omega);subst hz)|subst hz));(try (conv=>whnf))))
    exact⟨k+1,⟨by omega,hst⟩,by dsimp only;omega,(qSL 1 rfl rfl)⟩
  ·rw[if_neg fun h=>hn h.1]at hst
   (try (conv=>whnf));(repeat ((first|refine qT ?_|refine qF ?_|refine qO ?_|(with_reducible intro z hz);(first|(replace hz:=hz (by omega);subst hz)|subst hz));(try (conv=>whnf))))
   refine Idx.mk k (eiv e) _ rfl (by simp[he]) rfl ?_
   (try (conv=>whnf));(repeat ((first|refine qT ?_|refine qF ?_|refine qO ?_|(with_reducible intro z hz);(first|(replace hz:=hz (by omega);subst hz)|subst hz));(try (conv=>whnf))))
   exact⟨k+1,⟨by omega,hst⟩,by dsimp only;omega,(qSL 1 rfl rfl)⟩
 |inr hge=>
  obtain rfl:k=d.length:=by omega
  rw[List.take_length]at hno
  rw[hno]at hfin
  (try (conv=>whnf));(repeat ((first|refine qT ?_|refine qF ?_|refine qO ?_|(with_reducible intro z hz);(first|(replace hz:=hz (by omega);subst hz)|subst hz));(try (conv=>whnf))))
  exact hfin _ (ay.refl _)
end Go.Proofs.YtfjibfdelbodjaaGreat.Po
