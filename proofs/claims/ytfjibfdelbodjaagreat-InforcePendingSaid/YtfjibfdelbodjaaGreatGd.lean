/-
  Corpus: enacted items, by the reference. Corpus: the program's enacted items are the reference's (of no program but for the names). Corpus: the last correction in legal order counts, by the program as by the reference (of no program but for the names).
-/
import Derived.Test.YtfjibfdelbodjaaGreatWCp
namespace Go.Proofs.YtfjibfdelbodjaaGreat.Po
open Go Go.Pv Go.RowKit
set_option linter.unusedSimpArgs false
open Lab Lcs Go.Proofs.YtfjibfdelbodjaaGreat Go.Proofs.YtfjibfdelbodjaaGreat.Pu
set_option maxRecDepth 10000
set_option maxHeartbeats 64000000
def fE (f:Int→Int→It→It) (n d:Int):Nat→List It→List Ei
 |_,[]=>[]
 |i,x::l=>⟨n,(i:Nat),d,f n (i:Nat) x⟩::fE f n d (i+1) l
theorem zU (f:Int→Int→It→It) (n d:Int):∀(a b:List It) (i:Nat),fE f n d i (a++b)=fE f n d i a++fE f n d (i+a.length) b
 |[],b,i=>by simp[fE]
 |x::a,b,i=>by
  simp only[List.cons_append,fE,List.length_cons]
  rw[zU f n d a b (i+1),show i+1+a.length=i+(a.length+1) by omega]
theorem Gu {f:Int→Int→It→It} {n d:Int} {l:List It} {k:Nat} {x:It} (hx:l[k]?=some x):fE f n d 0 (l.take (k+1))=fE f n d 0 (l.take k)++[⟨n,(k:Nat),d,f n (k:Nat) x⟩]:=by
 have hk:(l.take k).length=k:=by
  have:=(List.getElem?_eq_some_iff.1 hx).1
  rw[List.length_take];omega
 rw[take_at hx,zU,hk,Nat.zero_add]
 rfl
theorem tN (f:Int→Int→It→It) (n d:Int):∀(l:List It) (i:Nat),(fE f n d i l).length=l.length
 |[],_=>rfl
 |x::l,i=>by simp[fE,tN f n d l (i+1)]
def Oh (f:Int→Int→It→It) (a:Ac):List Ei:=fE f a.num a.day 0 a.items
def kS (f:Int→Int→It→It) (l:List Ac):List Ei:=l.flatMap (Oh f)
def vP (l:List Ac):List Ei:=kS (kG l) l
theorem Hl {f:Int→Int→It→It} {l:List Ac} {k:Nat} {a:Ac} (hx:l[k]?=some a):kS f (l.take (k+1))=kS f (l.take k)++Oh f a:=by
 unfold kS
 rw[take_at hx,List.flatMap_append];simp
theorem zC (f:Int→Int→It→It) (l:List Ac):(kS f l).length=(l.map fun a=>a.items.length).sum:=by
 unfold kS
 rw[List.length_flatMap]
 congr 1
 exact List.map_congr_left fun a _=>tN f a.num a.day a.items 0
theorem FV (f:Ac→Nat):∀(l:List Ac) (k:Nat),((l.take k).map f).sum≤(l.map f).sum
 |[],k=>by simp
 |a::l,0=>by simp
 |a::l,k+1=>by
  have:=FV f l k
  simp only[List.take_succ_cons,List.map_cons,List.sum_cons]
  omega
theorem NG {f:Ac→Nat} {l:List Ac} {k:Nat} {a:Ac} (hx:l[k]?=some a):((l.take k).map f).sum+f a≤(l.map f).sum:=by
 have:=FV f l (k+1)
 rw[take_at hx,List.map_append,List.sum_append]at this
 simpa using this
theorem Nw (l:List Gz) (hl:l.length≤1000) (hg:∀g∈l,g.acts.length≤1000) (hs:((bn (allA l)).map fun a=>a.items.length).sum≤1000000):PC Tryz.prog aM 51 [.sl 4 (l.map gzv)] [.sl 28 ((vP (bn (allA l))).map eiv)]:=by
 have hAc:=Jg l hl hg
 have hln:=mO l hg
 have hrl:(bn (allA l)).length≤(allA l).length:=lg _ _
 unfold vP
 generalize bn (allA l)=row at *
 have hal:row.length≤1000000:=by omega
 clear hrl hln
 have hai:∀a∈row,a.items.length≤1000000:=fun a ha=>by
  obtain⟨k,hk,rfl⟩:=List.getElem_of_mem ha
  have:=NG (f:=fun a=>a.items.length) (List.getElem?_eq_getElem hk)
  omega
 have hml:(row.map acv).length=row.length:=List.length_map _
 refine PC.aj (T:=tb0) ay aH rfl mixed Tryz.func51 rfl rfl (Nat.le_of_ble_eq_true rfl) ?_;intro Γ C WK LP fin h0 hW hC hB hR hLP hfin
 (try (conv=>whnf));(repeat ((first|refine qT ?_|refine qF ?_|refine qO ?_|(with_reducible intro z hz);(first|(replace hz:=hz (by omega);subst hz)|subst hz)|(refine ah.mk _ (hC _ _ _ (PCw.of hAc)) (fun js hjs=>?_);subst hjs));(try (conv=>whnf))))
 refine hLP _ _ _ Nat (fun k=>⟨[(3,.imm (.sl 7 (row.map acv))),(4,.row 1 1),(5,.imm (.int .i64 (k:Nat)))],[.dead 0,.row 47 28 1 (((kS (kG row) (row.take k)).map eiv).map .imm)]⟩) (fun k=>k≤row.length) (fun k=>row.length - k) 0 (Nat.zero_le _) ((aC.row 1 ((((kS (kG row) (row.take 0)).map eiv).map .imm)) rfl (by rfl)).trans (qSL 2 rfl rfl)) ?_
 intro k hk
 have hho:=Nat.lt_or_ge k row.length
 cases hho with
 |inl hlt=>
  refine (?_:∀Q:Exit→AS→Prop,vcS _ _ _ _ _ _ _ (dV _ _ _ _ _ _ Q)) _;intro Q
  obtain⟨a,hak⟩:∃a,row[k]?=some a:=⟨row[k],List.getElem?_eq_getElem hlt⟩
  have hst:=Hl (f:=kG row) hak
  have hln:=zC (kG row) (row.take k)
  have hsa:=NG (f:=fun a=>a.items.length) hak
  have hmi:(a.items.map itv).length=a.items.length:=List.length_map _
  unfold Oh at hst
  generalize kS (kG row) (row.take k)=R at *
  (try (conv=>whnf));(repeat ((first|refine qT ?_|refine qF ?_|refine qO ?_|(with_reducible intro z hz);(first|(replace hz:=hz (by omega);subst hz)|subst hz));(try (conv=>whnf))))
  refine hLP _ _ _ Nat (fun j=>⟨[(3,.imm (.sl 7 (row.map acv))),(4,.row 1 1),(5,.imm (.int .i64 (k:Nat))),(6,.imm (.int .i64 (j:Nat)))],[.dead 0,.row 47 28 1 (((R++fE (kG row) a.num a.day 0 (a.items.take j)).map eiv).map .imm)]⟩) (fun j=>j≤a.items.length) (fun j=>a.items.length - j) 0 (Nat.zero_le _) ((aC.row 1 ((((R++fE (kG row) a.num a.day 0 (a.items.take 0)).map eiv).map .imm)) rfl (by simp[fE])).trans (qSL 2 rfl rfl)) ?_
  intro j hj
  have hhj:=Nat.lt_or_ge j a.items.length
  cases hhj with
  |inl hjl=>
   refine (?_:∀Q:Exit→AS→Prop,vcS _ _ _ _ _ _ _ (dV _ _ _ _ _ _ Q)) _;intro Q
   obtain⟨y,hy⟩:∃y,a.items[j]?=some y:=⟨a.items[j],List.getElem?_eq_getElem hjl⟩
   have hsj:=Gu (f:=kG row) (n:=a.num) (d:=a.day) hy
   have hlj:=tN (kG row) a.num a.day (a.items.take j) 0
   have hCo:=Qo row a.num (j:Nat) y hal hai
   rw[List.length_take]at hlj
   generalize fE (kG row) a.num a.day 0 (a.items.take j)=D at *
   generalize kG row a.num (j:Nat) y=v at *
   have hrow:(((R++D).map eiv).map PV.imm).length=R.length+D.length:=by simp
   rw[aR y,aR v]at hCo
   (try (conv=>whnf));(repeat ((first|refine qT ?_|refine qF ?_|refine qO ?_|(with_reducible intro z hz);(first|(replace hz:=hz (by omega);subst hz)|subst hz));(try (conv=>whnf))))
   refine Idx.mk k (acv a) _ rfl (by simp[hak]) rfl ?_
   (try (conv=>whnf));(repeat ((first|refine qT ?_|refine qF ?_|refine qO ?_|(with_reducible intro z hz);(first|(replace hz:=hz (by omega);subst hz)|subst hz));(try (conv=>whnf))))
   refine Idx.mk k (acv a) _ rfl (by simp[hak]) rfl ?_
   (try (conv=>whnf));(repeat ((first|refine qT ?_|refine qF ?_|refine qO ?_|(with_reducible intro z hz);(first|(replace hz:=hz (by omega);subst hz)|subst hz));(try (conv=>whnf))))
   refine Idx.mk k (acv a) _ rfl (by simp[hak]) rfl ?_
   (try (conv=>whnf));(repeat ((first|refine qT ?_|refine qF ?_|refine qO ?_|(with_reducible intro z hz);(first|(replace hz:=hz (by omega);subst hz)|subst hz));(try (conv=>whnf))))
   refine Idx.mk k (acv a) _ rfl (by simp[hak]) rfl ?_
   (try (conv=>whnf));(repeat ((first|refine qT ?_|refine qF ?_|refine qO ?_|(with_reducible intro z hz);(first|(replace hz:=hz (by omega);subst hz)|subst hz));(try (conv=>whnf))))
   refine Idx.mk k (acv a) _ rfl (by simp[hak]) rfl ?_
   (try (conv=>whnf));(repeat ((first|refine qT ?_|refine qF ?_|refine qO ?_|(with_reducible intro z hz);(first|(replace hz:=hz (by omega);subst hz)|subst hz));(try (conv=>whnf))))
   refine Idx.mk j (itv y) _ rfl (by simp[hy]) (by rw[aR y]) ?_
   (try (conv=>whnf));(repeat ((first|refine qT ?_|refine qF ?_|refine qO ?_|(with_reducible intro z hz);(first|(replace hz:=hz (by omega);subst hz)|subst hz)|(refine ah.mk _ (hC _ _ _ (PCw.of hCo)) (fun js hjs=>?_);subst hjs));(try (conv=>whnf))))
   exact⟨j+1,by omega,by dsimp only;omega,by
    dsimp only[]
    rw[hsj]
    exact (aC.row 1 ((((R++(D++[(⟨a.num,(j:Nat),a.day,v⟩:Ei)])).map eiv).map .imm)) rfl (by simp[eiv])).trans ((aC.renew 1 1 rfl (by first|omega|(intro _;rw[hk0 _ _ rfl];exact Nat.le_of_ble_eq_true rfl)) (by repeat (first|exact trivial|refine And.intro (bA _ _ _ _) ?_|refine And.intro rfl ?_))).trans (qSL 2 rfl rfl))⟩
  |inr hjg=>
   obtain rfl:j=a.items.length:=by omega
   rw[List.take_length]
   (try (conv=>whnf));(repeat ((first|refine qT ?_|refine qF ?_|refine qO ?_|(with_reducible intro z hz);(first|(replace hz:=hz (by omega);subst hz)|subst hz));(try (conv=>whnf))))
   refine Idx.mk k (acv a) _ rfl (by simp[hak]) rfl ?_
   (try (conv=>whnf));(repeat ((first|refine qT ?_|refine qF ?_|refine qO ?_|(with_reducible intro z hz);(first|(replace hz:=hz (by omega);subst hz)|subst hz));(try (conv=>whnf))))
   exact⟨k+1,by omega,by dsimp only;omega,by
    dsimp only[]
    rw[hst]
    exact (qSL 2 rfl rfl)⟩
 |inr hge=>
  obtain rfl:k=row.length:=by omega
  rw[List.take_length]
  (try (conv=>whnf));(repeat ((first|refine qT ?_|refine qF ?_|refine qO ?_|(with_reducible intro z hz);(first|(replace hz:=hz (by omega);subst hz)|subst hz));(try (conv=>whnf))))
  refine bN.mk ((kS (kG row) row).map eiv) rfl ?_
  (try (conv=>whnf));(repeat ((first|refine qT ?_|refine qF ?_|refine qO ?_|(with_reducible intro z hz);(first|(replace hz:=hz (by omega);subst hz)|subst hz));(try (conv=>whnf))))
  exact hfin _ (aA.refl _)
end Go.Proofs.YtfjibfdelbodjaaGreat.Po
namespace Go.Proofs.YtfjibfdelbodjaaGreat.Po
open Go Go.Pv Go.RowKit
set_option linter.unusedSimpArgs false
open Lab Lcs Go.Proofs.YtfjibfdelbodjaaGreat Go.Proofs.YtfjibfdelbodjaaGreat.Pu
open Go.Proofs (ltOf)
theorem nH (l:List Gz):lG l=(allA l).foldl gU ⟨[],[],[]⟩:=by
 unfold lG allA
 have:∀(l:List Gz) (r:Rg),l.foldl vS r=(l.flatMap Gz.acts).foldl gU r:=by
  intro l
  induction l with
  |nil=>intro r;rfl
  |cons g l ih=>intro r;rw[List.foldl_cons,ih,List.flatMap_cons,List.foldl_append];rfl
 exact this l _
def rgK (row:List Ac) (k:Nat):Rg:=(row.take k).foldl gU ⟨[],[],[]⟩
theorem wF {row:List Ac} {k:Nat} {a:Ac} (h:row[k]?=some a):rgK row (k+1)=gU (rgK row k) a:=Af h _
theorem yG (row:List Ac) (k:Nat):jE (fun a=>a∈row) (rgK row k):=sG (row.take k) _ (fun _ ha=>List.take_subset _ _ ha) EC
theorem yx (row:List Ac):∀k,k≤row.length→∀n,(aP (rgK row k).acts n=none↔∀a∈row.take k,a.num≠n)
 |0,_,n=>by simp[rgK,aP]
 |k+1,hk,n=>by
  obtain⟨a,ha⟩:∃a,row[k]?=some a:=⟨row[k],List.getElem?_eq_getElem (by omega)⟩
  have ih:=yx row k (by omega) n
  rw[wF ha,take_at ha]
  unfold gU
  cases hl:aP (rgK row k).acts a.num with
  |some b=>
   dsimp only
   rw[ih]
   constructor
   ·intro h x hx
    rcases List.mem_append.1 hx with hx|hx
    ·exact h x hx
    ·obtain rfl:=List.mem_singleton.1 hx
     intro e
     rw[e,ih.2 h]at hl
     cases hl
   ·intro h x hx
    exact h x (List.mem_append_left _ hx)
  |none=>
   dsimp only
   rw[eX]
   constructor
   ·intro h x hx
    split at h
    ·cases h
    ·rename_i hne
     rcases List.mem_append.1 hx with hx|hx
     ·exact ih.1 h x hx
     ·obtain rfl:=List.mem_singleton.1 hx;exact hne
   ·intro h
    rw[if_neg (h a (by simp))]
    exact ih.2 fun x hx=>h x (List.mem_append_left _ hx)
theorem Ch {row:List Ac} {k:Nat} {a:Ac} (h:row[k]?=some a):isF row k a=true↔∀b∈row.take k,b.num≠a.num:=by
 have hk:=(List.getElem?_eq_some_iff.1 h).1
 have hak:=(List.getElem?_eq_some_iff.1 h).2
 unfold isF CS
 rw[decide_eq_true_iff]
 constructor
 ·intro e
  split at e
  ·rename_i i hi
   rw[List.findIdx?_eq_some_iff_getElem]at hi
   obtain⟨_,_,h3⟩:=hi
   intro b hb
   obtain⟨j,hj,rfl⟩:=List.mem_take_iff_getElem.1 hb
   have:=h3 j (by omega)
   simpa using this
  ·omega
 ·intro hb
  have:row.findIdx? (fun b=>decide (b.num=a.num))=some k:=by
   rw[List.findIdx?_eq_some_iff_getElem]
   refine⟨hk,by simp[hak],fun j hj=>?_⟩
   have:=hb row[j] (List.mem_take_iff_getElem.2 ⟨j,by omega,rfl⟩)
   simpa using this
  rw[this]
theorem rY (a:Ac) (out:List Ac):(ig a out).Perm (a::out):=by
 unfold ig
 have h:=List.takeWhile_append_dropWhile (p:=fun b=>gQ b a) (l:=out)
 refine List.perm_middle.trans ?_
 rw[h]
theorem eB (row:List Ac):∀k,k≤row.length→(bX row k).Perm ((rgK row k).acts.map Prod.snd)
 |0,_=>by simp[bX,rgK]
 |k+1,hk=>by
  obtain⟨a,ha⟩:∃a,row[k]?=some a:=⟨row[k],List.getElem?_eq_getElem (by omega)⟩
  have ih:=eB row k (by omega)
  have hn:=yx row k (by omega) a.num
  rw[wF ha,bX,ha]
  dsimp only
  by_cases hF:isF row k a=true
  ·rw[if_pos hF]
   have h0:=hn.2 ((Ch ha).1 hF)
   unfold gU
   rw[h0]
   dsimp only
   rw[qy h0,List.map_append]
   refine (rY a _).trans ((ih.cons a).trans ?_)
   exact (List.perm_append_comm (l₁:=[a])).trans (List.Perm.refl _)
  ·rw[if_neg hF]
   have h0:aP (rgK row k).acts a.num≠none:=fun e=>hF ((Ch ha).2 (hn.1 e))
   unfold gU
   cases hl:aP (rgK row k).acts a.num with
   |none=>exact absurd hl h0
   |some b=>exact ih
def ltA (a b:Ac):Prop:=a.day < b.day∨(a.day=b.day∧a.num < b.num)
theorem zG {a b:Ac}:gQ a b=true↔ltA a b:=by unfold gQ ltA;exact decide_eq_true_iff
theorem uh {a:Ac}:∀{out:List Ac},out.Pairwise ltA→(∀b∈out,b.num≠a.num)→(ig a out).Pairwise ltA
 |[],_,_=>by simp[ig]
 |b::out,hs,hn=>by
  rw[List.pairwise_cons]at hs
  have hba:=hn b List.mem_cons_self
  unfold ig
  by_cases hb:gQ b a=true
  ·simp only[List.takeWhile_cons,hb,if_true,List.dropWhile_cons,List.cons_append]
   have ih:=uh (a:=a) hs.2 fun x hx=>hn x (List.mem_cons_of_mem _ hx)
   rw[List.pairwise_cons]
   refine⟨fun x hx=>?_,ih⟩
   rcases List.mem_cons.1 ((rY a out).subset hx) with rfl|hx
   ·exact zG.1 hb
   ·exact hs.1 x hx
  ·simp only[List.takeWhile_cons,hb,if_false,List.dropWhile_cons,List.nil_append,Bool.false_eq_true]
   rw[List.pairwise_cons,List.pairwise_cons]
   have hlt:ltA a b:=by
    rw[zG]at hb
    unfold ltA at *
    omega
   refine⟨fun x hx=>?_,hs⟩
   rcases List.mem_cons.1 hx with rfl|hx
   ·exact hlt
   ·have:=hs.1 x hx
    unfold ltA at *
    omega
theorem jd (row:List Ac):∀k,k≤row.length→(bX row k).Pairwise ltA
 |0,_=>by simp[bX]
 |k+1,hk=>by
  obtain⟨a,ha⟩:∃a,row[k]?=some a:=⟨row[k],List.getElem?_eq_getElem (by omega)⟩
  have ih:=jd row k (by omega)
  rw[bX,ha]
  dsimp only
  split
  ·rename_i hF
   refine uh ih fun b hb=>?_
   have hb':=(eB row k (by omega)).subset hb
   obtain⟨p,hp,rfl⟩:=List.mem_map.1 hb'
   have hg:=yG row k
   intro e
   have h0:=(yx row k (by omega) a.num).2 ((Ch ha).1 hF)
   rw[fI]at h0
   exact h0 (by rw[←e,←hg.key p hp];exact List.mem_map_of_mem hp)
  ·exact ih
def Best (S:Ei→Prop) (n i:Int):Option Ei→Prop
 |none=>∀d,S d→isC d.it=true→gK d=(n,i)→False
 |some e=>S e∧isC e.it=true∧gK e=(n,i)∧∀d,S d→isC d.it=true→gK d=(n,i)→ltOf fD e d=false
theorem Best.uniq {S:Ei→Prop} (hd:∀x y,S x→S y→wS x y→x=y) {n i:Int}:∀{o o':Option Ei},Best S n i o→Best S n i o'→o=o'
 |none,none,_,_=>rfl
 |none,some e,h,h'=>absurd (h e h'.1 h'.2.1 h'.2.2.1) id
 |some e,none,h,h'=>absurd (h' e h.1 h.2.1 h.2.2.1) id
 |some e,some e',h,h'=>by
  have h1:=h.2.2.2 e' h'.1 h'.2.1 h'.2.2.1
  have h2:=h'.2.2.2 e h.1 h.2.1 h.2.2.1
  rw[lH]at h1 h2
  rw[hd e e' h.1 h'.1 (by unfold wS;omega)]
theorem Best.congr {S S':Ei→Prop} (h:∀x,S x↔S' x) {n i:Int} {o:Option Ei} (hb:Best S n i o):Best S' n i o:=by
 cases o with
 |none=>exact fun d hd=>hb d ((h d).2 hd)
 |some e=>exact⟨(h e).1 hb.1,hb.2.1,hb.2.2.1,fun d hd=>hb.2.2.2 d ((h d).2 hd)⟩
theorem z8 {a b:Ei}:0 < fD a b↔ltOf fD b a=true:=by
 rw[qV]
 have h1:=@jc a.day b.day
 have h2:=@gW a.day b.day
 have h3:=@jc a.act b.act
 have h4:=@gW a.act b.act
 have h5:=@jc a.item b.item
 have h6:=@gW a.item b.item
 unfold fD
 split
 ·omega
 ·split
  ·omega
  ·omega
def Holds (S:Ei→Prop) (m:eT):Prop:=∀n i,Best S n i (aP m (n,i))
theorem Ie {S:Ei→Prop} {m:eT} {d:Ei} (h:Holds S m):Holds (fun x=>S x∨x=d) (pz m d):=by
 intro n i
 have hni:=h n i
 unfold pz
 split
 ·rename_i hd
  unfold rZ
  have hput:(∀e,aP m (gK d)=some e→ltOf fD e d=true)→Best (fun x=>S x∨x=d) n i (aP (cB m (gK d) d) (n,i)):=fun hlt=>by
   rw[eX]
   by_cases hr:gK d=(n,i)
   ·rw[if_pos hr]
    refine⟨Or.inr rfl,hd,hr,fun x hx hc hrx=>?_⟩
    rcases hx with hx|rfl
    ·rw[hr]at hlt
     cases hl:aP m (n,i) with
     |none=>rw[hl]at hni;exact (hni x hx hc hrx).elim
     |some e=>
      rw[hl]at hni
      have h1:=hni.2.2.2 x hx hc hrx
      have h2:=hlt e hl
      rw[lH]at h1 ⊢
      rw[qV]at h2
      omega
    ·exact Lx.irrefl x
   ·rw[if_neg hr]
    cases hl:aP m (n,i) with
    |none=>
     rw[hl]at hni
     intro x hx hc hrx
     rcases hx with hx|rfl
     ·exact hni x hx hc hrx
     ·exact hr hrx
    |some e=>
     rw[hl]at hni
     refine⟨Or.inl hni.1,hni.2.1,hni.2.2.1,fun x hx hc hrx=>?_⟩
     rcases hx with hx|rfl
     ·exact hni.2.2.2 x hx hc hrx
     ·exact absurd hrx hr
  split
  ·rename_i hl
   exact hput fun e he=>by rw[hl]at he;cases he
  ·rename_i e hl
   split
   ·rename_i hg
    exact hput fun e' he=>by
     rw[hl]at he
     injection he with he
     rw[←he]
     exact z8.1 hg
   ·rename_i hg
    cases hl2:aP m (n,i) with
    |none=>
     rw[hl2]at hni
     intro x hx hc hrx
     rcases hx with hx|rfl
     ·exact hni x hx hc hrx
     ·rw[←hrx,hl]at hl2;cases hl2
    |some e2=>
     rw[hl2]at hni
     refine⟨Or.inl hni.1,hni.2.1,hni.2.2.1,fun x hx hc hrx=>?_⟩
     rcases hx with hx|rfl
     ·exact hni.2.2.2 x hx hc hrx
     ·rw[←hrx,hl]at hl2
      injection hl2 with hl2
      rw[←hl2]
      rw[z8]at hg
      simpa using hg
 ·rename_i hd
  cases hl:aP m (n,i) with
  |none=>
   rw[hl]at hni
   intro x hx hc hrx
   rcases hx with hx|rfl
   ·exact hni x hx hc hrx
   ·exact hd hc
  |some e=>
   rw[hl]at hni
   refine⟨Or.inl hni.1,hni.2.1,hni.2.2.1,fun x hx hc hrx=>?_⟩
   rcases hx with hx|rfl
   ·exact hni.2.2.2 x hx hc hrx
   ·exact absurd hc hd
theorem Holds.congr {S S':Ei→Prop} (h:∀x,S x↔S' x) {m:eT} (hm:Holds S m):Holds S' m:=fun n i=>(hm n i).congr h
theorem wO:∀(l:List Ei) {S:Ei→Prop} {m:eT},Holds S m→Holds (fun x=>S x∨x∈l) (l.foldl pz m)
 |[],S,m,h=>h.congr fun x=>by simp
 |d::l,S,m,h=>by
  rw[List.foldl_cons]
  refine (wO l (Ie (d:=d) h)).congr fun x=>?_
  rw[List.mem_cons,or_assoc]
theorem AX (row:List Ac):∀k,k≤row.length→Holds (fun x=>∃p∈(rgK row k).acts,x∈eiA p.2) (rgK row k).cors
 |0,_=>fun n i=>by
  show Best _ n i (aP [] (n,i))
  intro d hd
  obtain⟨p,hp,_⟩:=hd
  cases hp
 |k+1,hk=>by
  obtain⟨a,ha⟩:∃a,row[k]?=some a:=⟨row[k],List.getElem?_eq_getElem (by omega)⟩
  have ih:=AX row k (by omega)
  rw[wF ha]
  unfold gU
  cases hl:aP (rgK row k).acts a.num with
  |some b=>exact ih
  |none=>
   dsimp only
   rw[qy hl]
   refine (wO (eiA a) ih).congr fun x=>?_
   constructor
   ·rintro (⟨p,hp,hx⟩|hx)
    ·exact⟨p,List.mem_append_left _ hp,hx⟩
    ·exact⟨(a.num,a),List.mem_append_right _ (by simp),hx⟩
   ·rintro⟨p,hp,hx⟩
    rcases List.mem_append.1 hp with hp|hp
    ·exact Or.inl ⟨p,hp,hx⟩
    ·obtain rfl:=List.mem_singleton.1 hp;exact Or.inr hx
end Go.Proofs.YtfjibfdelbodjaaGreat.Po
namespace Go.Proofs.YtfjibfdelbodjaaGreat.Po
open Go Go.Pv Go.RowKit
set_option linter.unusedSimpArgs false
open Lab Lcs Go.Proofs.YtfjibfdelbodjaaGreat Go.Proofs.YtfjibfdelbodjaaGreat.Pu
open Go.Proofs (ltOf)
def mq (n i:Int):Option Ei→List Ei→Option Ei
 |o,[]=>o
 |o,d::l=>mq n i (if isC d.it=true∧gK d=(n,i) then some d else o) l
def Ep (x:It):Option Ei→It
 |none=>x
 |some e=>e.it.bys.headD e.it
theorem Mv (n i:Int) (x:It) (o:Option Ei) (d:Ei):iX n i (Ep x o) d.it=Ep x (if isC d.it=true∧gK d=(n,i) then some d else o):=by
 unfold iX gK
 by_cases h:isC d.it=true∧d.it.a=n∧d.it.i=i
 ·rw[if_pos h,if_pos ⟨h.1,by rw[h.2.1,h.2.2]⟩];rfl
 ·rw[if_neg h,if_neg]
  rintro⟨h1,h2⟩
  injection h2 with h2 h3
  exact h ⟨h1,h2,h3⟩
theorem Au (n i:Int):∀(a b:List Ei) (o:Option Ei),mq n i o (a++b)=mq n i (mq n i o a) b
 |[],_,_=>rfl
 |d::a,b,o=>by
  rw[List.cons_append,mq,mq,Au n i a b]
theorem zJ (n i:Int) (x:It) (m d:Int):∀(l:List It) (k:Nat) (o:Option Ei),C8 n i (Ep x o) l=Ep x (mq n i o (eH m d k l))
 |[],_,_=>rfl
 |y::l,k,o=>by
  rw[eH,mq,←zJ n i x m d l (k+1)]
  unfold C8
  rw[List.foldl_cons]
  congr 1
  exact Mv n i x o ⟨m,(k:Nat),d,y⟩
theorem zh (n i:Int) (x:It):∀(l:List Ac) (o:Option Ei),yQ n i (Ep x o) l=Ep x (mq n i o (l.flatMap eiA))
 |[],_=>rfl
 |a::l,o=>by
  rw[List.flatMap_cons,Au,←zh n i x l]
  unfold yQ
  rw[List.foldl_cons]
  congr 1
  exact zJ n i x a.num a.day a.items 0 o
theorem yE {n i:Int}:∀(l:List Ei) {S:Ei→Prop} {o:Option Ei},Best S n i o→(∀x,S x→∀y∈l,ltOf fD y x=false)→l.Pairwise (fun a b=>ltOf fD b a=false)→Best (fun x=>S x∨x∈l) n i (mq n i o l)
 |[],S,o,h,_,_=>h.congr fun x=>by simp
 |d::l,S,o,h,hS,hs=>by
  rw[List.pairwise_cons]at hs
  rw[mq]
  have hb:Best (fun x=>S x∨x=d) n i (if isC d.it=true∧gK d=(n,i) then some d else o):=by
   by_cases hc:isC d.it=true∧gK d=(n,i)
   ·rw[if_pos hc]
    refine⟨Or.inr rfl,hc.1,hc.2,fun x hx _ _=>?_⟩
    rcases hx with hx|rfl
    ·exact hS x hx d List.mem_cons_self
    ·exact Lx.irrefl x
   ·rw[if_neg hc]
    cases o with
    |none=>
     intro x hx h1 h2
     rcases hx with hx|rfl
     ·exact h x hx h1 h2
     ·exact hc ⟨h1,h2⟩
    |some e=>
     refine⟨Or.inl h.1,h.2.1,h.2.2.1,fun x hx h1 h2=>?_⟩
     rcases hx with hx|rfl
     ·exact h.2.2.2 x hx h1 h2
     ·exact absurd ⟨h1,h2⟩ hc
  refine (yE l hb (fun x hx y hy=>?_) hs.2).congr fun x=>by rw[List.mem_cons,or_assoc]
  rcases hx with hx|rfl
  ·exact hS x hx y (List.mem_cons_of_mem _ hy)
  ·exact hs.1 y hy
theorem wC {n d:Int}:∀(l:List It) (k:Nat),(eH n d k l).Pairwise fun a b=>ltOf fD b a=false
 |[],_=>List.Pairwise.nil
 |x::l,k=>by
  rw[eH,List.pairwise_cons]
  refine⟨fun e he=>?_,wC l (k+1)⟩
  obtain⟨h1,h2,h3,_⟩:=xE he
  rw[lH]
  simp only
  omega
theorem nM:∀{l:List Ac},l.Pairwise ltA→∀(g:Ac→List Ei),(∀a,(g a).Pairwise fun a b=>ltOf fD b a=false)→(∀a,∀e∈g a,e.act=a.num∧e.day=a.day)→(l.flatMap g).Pairwise fun a b=>ltOf fD b a=false
 |[],_,_,_,_=>List.Pairwise.nil
 |a::l,hs,g,hg,hk=>by
  rw[List.pairwise_cons]at hs
  rw[List.flatMap_cons,List.pairwise_append]
  refine⟨hg a,nM hs.2 g hg hk,fun x hx y hy=>?_⟩
  obtain⟨b,hb,hy⟩:=List.mem_flatMap.1 hy
  have h1:=hs.1 b hb
  have h2:=hk a x hx
  have h3:=hk b y hy
  unfold ltA at h1
  rw[lH]
  omega
theorem tF (f:Int→Int→It→It) (n d:Int):∀(l:List It) (k:Nat) (e:Ei),e∈fE f n d k l→e.act=n∧e.day=d∧(k:Int)≤e.item
 |[],_,_,h=>by cases h
 |x::l,k,e,h=>by
  rw[fE]at h
  rcases List.mem_cons.1 h with rfl|h
  ·exact⟨rfl,rfl,Int.le_refl _⟩
  ·obtain⟨h1,h2,h3⟩:=tF f n d l (k+1) e h
   exact⟨h1,h2,by omega⟩
theorem rG (f:Int→Int→It→It) {n d:Int}:∀(l:List It) (k:Nat),(fE f n d k l).Pairwise fun a b=>ltOf fD b a=false
 |[],_=>List.Pairwise.nil
 |x::l,k=>by
  rw[fE,List.pairwise_cons]
  refine⟨fun e he=>?_,rG f l (k+1)⟩
  obtain⟨h1,h2,h3⟩:=tF f n d l (k+1) e he
  rw[lH]
  simp only
  omega
theorem RG (row:List Ac) (n i:Int) (x:It):mF (rgK row row.length).cors n i x=kG (bn row) n i x:=by
 have hg:=yG row row.length
 have hp:=eB row row.length (Nat.le_refl _)
 have hs:=jd row row.length (Nat.le_refl _)
 have hh:=AX row row.length (Nat.le_refl _) n i
 have hfs:=nM hs eiA (fun a=>wC a.items 0) (fun a e he=>by
  obtain⟨k,y,_,rfl⟩:=jg he
  exact⟨rfl,rfl⟩)
 have hl:=yE (n:=n) (i:=i) ((bX row row.length).flatMap eiA) (S:=fun _=>False) (o:=none) (fun _ h=>h.elim) (fun _ h=>h.elim) hfs
 have hl2:Best (fun x=>∃p∈(rgK row row.length).acts,x∈eiA p.2) n i (mq n i none ((bX row row.length).flatMap eiA)):=hl.congr fun x=>by
  simp only[false_or,List.mem_flatMap]
  constructor
  ·rintro⟨a,ha,hx⟩
   obtain⟨p,hp',rfl⟩:=List.mem_map.1 (hp.subset ha)
   exact⟨p,hp',hx⟩
  ·rintro⟨p,hp',hx⟩
   exact⟨p.2,hp.symm.subset (List.mem_map_of_mem hp'),hx⟩
 have he:=Best.uniq (fun x y hx hy hxy=>by
  obtain⟨p,hp1,hx⟩:=hx
  obtain⟨q,hq1,hy⟩:=hy
  have hx0:=hx
  have hy0:=hy
  obtain⟨k,u,h1,rfl⟩:=jg hx
  obtain⟨j,v,h2,rfl⟩:=jg hy
  obtain⟨s1,s2,s3⟩:=hxy
  have hpq:p=q:=sF hg.nodup hp1 hq1 (by rw[hg.key p hp1,hg.key q hq1];exact s2)
  subst hpq
  exact F9 hx0 hy0 s3) hh hl2
 have ha:=zh n i x (bn row) none
 unfold mF kG
 cases hc:chB x.kind with
 |false=>
  cases aP (rgK row row.length).cors (n,i)<;>simp
 |true=>
  rw[if_pos rfl,show x=Ep x none from rfl,ha,show (bn row).flatMap eiA=(bX row row.length).flatMap eiA from rfl,←he]
  cases hlk:aP (rgK row row.length).cors (n,i) with
  |none=>rfl
  |some e=>
   obtain⟨y,q,hy⟩:=hg.okc n i e hlk
   simp[Ep,hy]
theorem AB (m:eT) (n d:Int):∀(l:List It) (k:Nat),eH n d k (lD m n k l)=fE (mF m) n d k l
 |[],_=>rfl
 |x::l,k=>by rw[lD,eH,fE,AB m n d l (k+1)]
theorem Gy (m:eT) (l:AcM):iC m l=kS (mF m) (l.map Prod.snd):=by
 unfold iC kS
 rw[List.flatMap_map]
 congr 1
 funext p
 exact AB m p.2.num p.2.day p.2.items 0
theorem MC (row:List Ac):rA (ku (rgK row row.length))=vP (bn row):=by
 have hg:=yG row row.length
 have hp:=eB row row.length (Nat.le_refl _)
 have hs:=jd row row.length (Nat.le_refl _)
 have hc:mF (rgK row row.length).cors=kG (bn row):=by
  funext n i x
  exact RG row n i x
 refine (vM (l:=ku (rgK row row.length)) ?_ (vI hg) ?_).symm
 ·unfold ku vP
  rw[Gy,hc]
  unfold kS
  exact List.Perm.flatMap_right _ hp
 ·exact nM hs _ (fun a=>rG _ a.items 0) (fun a e he=>by
   obtain⟨h1,h2,_⟩:=tF _ _ _ _ _ e he
   exact⟨h1,h2⟩)
theorem zQ (l:List Gz):rA (ku (lG l))=vP (bn (allA l)):=by
 have h:=MC (allA l)
 unfold rgK at h
 rw[List.take_length]at h
 rw[nH]
 exact h
theorem Qg (l:List Gz):xM (lG l).acts=((bn (allA l)).map fun a=>a.items.length).sum:=by
 have hp:=eB (allA l) (allA l).length (Nat.le_refl _)
 unfold rgK at hp
 rw[List.take_length]at hp
 rw[nH]
 unfold xM bn
 have:=(hp.map fun a=>a.items.length).sum_nat
 rw[List.map_map]at this
 exact this.symm
end Go.Proofs.YtfjibfdelbodjaaGreat.Po
