/-
  Corpus: items and acts as corrected. Corpus: an act as corrected. Corpus: legal order of enacted items as an order; sorted lists of them (of no program but for the names). Corpus: what holds of every register (of no program but for the names).
-/
import Derived.Test.YtfjibfdelbodjaaGreatGa
import Derived.Test.YtfjibfdelbodjaaGreatSov
namespace Go.Proofs.YtfjibfdelbodjaaGreat.Po
open Go Go.Pv Go.RowKit
set_option linter.unusedSimpArgs false
open Lab Lcs Go.Proofs.YtfjibfdelbodjaaGreat Go.Proofs.YtfjibfdelbodjaaGreat.Pu
set_option maxRecDepth 10000
set_option maxHeartbeats 32000000
def mF (m:eT) (n i:Int) (x:It):It:=match aP m (n,i) with
 |some e=>if chB x.kind=true then e.it.bys.headD x else x
 |none=>x
def RP (m:eT):Prop:=∀n i e,aP m (n,i)=some e→∃y r,e.it.bys=y::r
end Go.Proofs.YtfjibfdelbodjaaGreat.Po
namespace Go.Proofs.YtfjibfdelbodjaaGreat.Po
open Go Go.Pv Go.RowKit
set_option linter.unusedSimpArgs false
open Lab Lcs Go.Proofs.YtfjibfdelbodjaaGreat Go.Proofs.YtfjibfdelbodjaaGreat.Pu
set_option maxRecDepth 10000
set_option maxHeartbeats 32000000
abbrev rgD (r:Rg):List Blk:=[.dead 1,.map (.int .i64) 1 (mkL kI IV.bool r.jf),.map kkC 1 (mkL kv2 eiv r.cors)]
abbrev TR (r:Rg):List CBk:=[.dead 1,.map (.int .i64) 1 (mkL kI IV.bool r.jf),.map kkC 1 (mkL kv2 eiv r.cors)]
abbrev rwI (g:Nat) (l:List It):Blk:=.row 45 25 g ((l.map itv).map .imm)
abbrev TI (g:Nat) (l:List It):CBk:=.row 45 25 g (l.map itv)
abbrev SG (r:Rg) (l:List It):List Blk:=[.dead 1,.map (.int .i64) 1 (mkL kI IV.bool r.jf),.map kkC 1 (mkL kv2 eiv r.cors),rwI 1 l]
abbrev SV (r:Rg) (l:List It):List CBk:=[.dead 1,.map (.int .i64) 1 (mkL kI IV.bool r.jf),.map kkC 1 (mkL kv2 eiv r.cors),TI 1 l]
theorem BG (r:Rg) (a:Ac) (its:List It) (i:Nat) (x:It) (hx:its[i]?=some x) (hm:RP r.cors) :
  PCB Tryz.prog aM 124 [.agg [.row 0 1,.row 1 1,.row 2 1],.agg [.imm (.int .i64 a.num),.imm (.str a.title),.imm (.int .i64 a.day),.imm (.int .i64 a.sk),.imm (.int .i64 a.sd),.imm (.str a.se),.row 3 1],.imm (.int .i64 (i:Nat))] (SG r its) [.imm (itv (mF r.cors a.num i x))] (SG r its):=by
 have hk:=F5 r.cors a.num (i:Nat)
 have hA:=uW x.kind
 have hlt:=(List.getElem?_eq_some_iff.1 hx).1
 have hmi:(its.map itv).length=its.length:=List.length_map _
 have hmi2:((its.map itv).map PV.imm).length=its.length:=by simp
 have hrx:((its.map itv).map PV.imm)[i]?=some (.imm (itv x)):=by simp[hx]
 cases hl:aP r.cors (a.num,(i:Int)) with
 |none=>
  rw[hl]at hk
  have hc:mF r.cors a.num i x=x:=by unfold mF;rw[hl]
  rw[hc]
  rw[aR x]at hrx ⊢
  refine PCB.aj (T:=MG) ay l8 rfl mixed Tryz.func124 rfl rfl rfl (Nat.le_of_ble_eq_true rfl) rfl ?_;intro Γ C WK LP fin h0 hk0 hW hC hB hR hLP hfin
  have h03:Γ.n0=4:=h0
  (try (conv=>whnf));(repeat ((first|refine qT ?_|refine qF ?_|refine qO ?_|(with_reducible intro z hz);(first|(replace hz:=hz (by omega);subst hz)|subst hz));(try (conv=>whnf))))
  refine Pos.mk i rfl (by omega) ?_
  (try (conv=>whnf));(repeat ((first|refine qT ?_|refine qF ?_|refine qO ?_|(with_reducible intro z hz);(first|(replace hz:=hz (by omega);subst hz)|subst hz));(try (conv=>whnf))))
  refine At.mk _ hrx ?_
  (try (conv=>whnf));(repeat ((first|refine qT ?_|refine qF ?_|refine qO ?_|(with_reducible intro z hz);(first|(replace hz:=hz (by omega);subst hz)|subst hz));(try (conv=>whnf))))
  refine gD.mk SH false (by rw[hk];rfl) (by rw[hk];rfl) ?_
  (try (conv=>whnf));(repeat ((first|refine qT ?_|refine qF ?_|refine qO ?_|(with_reducible intro z hz);(first|(replace hz:=hz (by omega);subst hz)|subst hz));(try (conv=>whnf))))
  exact hfin _ (qSL 4 rfl rfl)
 |some e=>
  rw[hl]at hk
  obtain⟨y,q,hy⟩:=hm _ _ _ hl
  have hy1:(e.it.bys.map itv).length=q.length+1:=by rw[hy];simp
  cases hb:chB x.kind with
  |true=>
   have hc:mF r.cors a.num i x=y:=by unfold mF;rw[hl];simp[hb,hy]
   rw[hc]
   rw[hb]at hA
   rw[aR x]at hrx
   rw[aR y]
   refine PCB.aj (T:=MG) ay l8 rfl mixed Tryz.func124 rfl rfl rfl (Nat.le_of_ble_eq_true rfl) rfl ?_;intro Γ C WK LP fin h0 hk0 hW hC hB hR hLP hfin
   have h03:Γ.n0=4:=h0
   (try (conv=>whnf));(repeat ((first|refine qT ?_|refine qF ?_|refine qO ?_|(with_reducible intro z hz);(first|(replace hz:=hz (by omega);subst hz)|subst hz));(try (conv=>whnf))))
   refine Pos.mk i rfl (by omega) ?_
   (try (conv=>whnf));(repeat ((first|refine qT ?_|refine qF ?_|refine qO ?_|(with_reducible intro z hz);(first|(replace hz:=hz (by omega);subst hz)|subst hz));(try (conv=>whnf))))
   refine At.mk _ hrx ?_
   (try (conv=>whnf));(repeat ((first|refine qT ?_|refine qF ?_|refine qO ?_|(with_reducible intro z hz);(first|(replace hz:=hz (by omega);subst hz)|subst hz));(try (conv=>whnf))))
   refine gD.mk (eiv e) true (by rw[hk];rfl) (by rw[hk];rfl) ?_
   rw[fq e]
   (try (conv=>whnf));(repeat ((first|refine qT ?_|refine qF ?_|refine qO ?_|(with_reducible intro z hz);(first|(replace hz:=hz (by omega);subst hz)|subst hz)|(refine ah.mk _ (hC _ _ _ (PCw.of hA)) (fun js hjs=>?_);subst hjs));(try (conv=>whnf))))
   refine Idx.mk 0 (itv y) _ rfl (by rw[hy];rfl) (by rw[aR y]) ?_
   (try (conv=>whnf));(repeat ((first|refine qT ?_|refine qF ?_|refine qO ?_|(with_reducible intro z hz);(first|(replace hz:=hz (by omega);subst hz)|subst hz));(try (conv=>whnf))))
   exact hfin _ (qSL 4 rfl rfl)
  |false=>
   have hc:mF r.cors a.num i x=x:=by unfold mF;rw[hl];simp[hb]
   rw[hc]
   rw[hb]at hA
   rw[aR x]at hrx ⊢
   refine PCB.aj (T:=MG) ay l8 rfl mixed Tryz.func124 rfl rfl rfl (Nat.le_of_ble_eq_true rfl) rfl ?_;intro Γ C WK LP fin h0 hk0 hW hC hB hR hLP hfin
   have h03:Γ.n0=4:=h0
   (try (conv=>whnf));(repeat ((first|refine qT ?_|refine qF ?_|refine qO ?_|(with_reducible intro z hz);(first|(replace hz:=hz (by omega);subst hz)|subst hz));(try (conv=>whnf))))
   refine Pos.mk i rfl (by omega) ?_
   (try (conv=>whnf));(repeat ((first|refine qT ?_|refine qF ?_|refine qO ?_|(with_reducible intro z hz);(first|(replace hz:=hz (by omega);subst hz)|subst hz));(try (conv=>whnf))))
   refine At.mk _ hrx ?_
   (try (conv=>whnf));(repeat ((first|refine qT ?_|refine qF ?_|refine qO ?_|(with_reducible intro z hz);(first|(replace hz:=hz (by omega);subst hz)|subst hz));(try (conv=>whnf))))
   refine gD.mk (eiv e) true (by rw[hk];rfl) (by rw[hk];rfl) ?_
   rw[fq e]
   (try (conv=>whnf));(repeat ((first|refine qT ?_|refine qF ?_|refine qO ?_|(with_reducible intro z hz);(first|(replace hz:=hz (by omega);subst hz)|subst hz)|(refine ah.mk _ (hC _ _ _ (PCw.of hA)) (fun js hjs=>?_);subst hjs));(try (conv=>whnf))))
   exact hfin _ (qSL 4 rfl rfl)
def lD (m:eT) (n:Int):Nat→List It→List It
 |_,[]=>[]
 |i,x::l=>mF m n i x::lD m n (i+1) l
theorem DT (m:eT) (n:Int):∀(a b:List It) (i:Nat),lD m n i (a++b)=lD m n i a++lD m n (i+a.length) b
 |[],b,i=>by simp[lD]
 |x::a,b,i=>by
  simp only[List.cons_append,lD,List.length_cons]
  rw[DT m n a b (i+1),show i+1+a.length=i+(a.length+1) by omega]
theorem kV (m:eT) (n:Int):∀(l:List It) (i:Nat),(lD m n i l).length=l.length
 |[],_=>rfl
 |x::l,i=>by simp[lD,kV m n l (i+1)]
def uL (m:eT) (n:Int) (l:List It) (k:Nat):List It:=lD m n 0 (l.take k)++l.drop k
theorem O4 (m:eT) (n:Int) (l:List It) (k:Nat):(uL m n l k).length=l.length:=by
 unfold uL
 rw[List.length_append,kV,List.length_take,List.length_drop];omega
theorem Qf {m:eT} {n:Int} {l:List It} {k:Nat} {x:It} (hx:l[k]?=some x):(uL m n l k)[k]?=some x:=by
 have hk:=(List.getElem?_eq_some_iff.1 hx).1
 have hl:(lD m n 0 (l.take k)).length=k:=by rw[kV,List.length_take];omega
 unfold uL
 rw[List.getElem?_append_right (by omega),hl,Nat.sub_self,List.getElem?_drop]
 exact hx
theorem LH {m:eT} {n:Int} {l:List It} {k:Nat} {x:It} (hx:l[k]?=some x):(uL m n l k).set k (mF m n k x)=uL m n l (k+1):=by
 have hk:=(List.getElem?_eq_some_iff.1 hx).1
 have hl:(lD m n 0 (l.take k)).length=k:=by rw[kV,List.length_take];omega
 have ht:(l.take k).length=k:=by rw[List.length_take];omega
 have hd:l.drop k=x::l.drop (k+1):=by rw[List.drop_eq_getElem_cons hk];congr 1;exact (List.getElem?_eq_some_iff.1 hx).2
 unfold uL
 rw[List.set_append_right _ _ (by omega),hl,Nat.sub_self,hd,List.set_cons_zero,take_at hx,DT,ht,Nat.zero_add]
 simp[lD]
def rO (m:eT) (a:Ac):Ac:=⟨a.num,a.title,a.day,a.sk,a.sd,a.se,lD m a.num 0 a.items⟩
theorem yU (r:Rg) (a:Ac) (hm:RP r.cors) (hs:a.items.length≤1000000) :
  PCB Tryz.prog aM 78 [.agg [.row 0 1,.row 1 1,.row 2 1],.imm (acv a)] (rgD r) [.imm (acv (rO r.cors a))] (rgD r):=by
 have hI1:=yB (X:=aM) (a.items.map itv) (by simp;omega)
 have hmi:(a.items.map itv).length=a.items.length:=List.length_map _
 have hmi2:((a.items.map itv).map PV.imm).length=a.items.length:=by simp
 unfold acv rO
 refine PCB.aj (T:=(SL fun r=>match r with|7=>[6]|_=>[])) ay l8 rfl mixed Tryz.func78 rfl rfl rfl (Nat.le_of_ble_eq_true rfl) rfl ?_;intro Γ C WK LP fin h0 hk0 hW hC hB hR hLP hfin
 have h03:Γ.n0=3:=h0
 (try (conv=>whnf));(repeat ((first|refine qT ?_|refine qF ?_|refine qO ?_|(with_reducible intro z hz);(first|(replace hz:=hz (by omega);subst hz)|subst hz));(try (conv=>whnf))))
 refine ah.row _ _ _ (hR _ _ _ _ _ (uM.of (hI1))) (fun js hjs=>?_);subst hjs
 (try (conv=>whnf));(repeat ((first|refine qT ?_|refine qF ?_|refine qO ?_|(with_reducible intro z hz);(first|(replace hz:=hz (by omega);subst hz)|subst hz));(try (conv=>whnf))))
 refine hLP _ _ _ Nat (fun k=>⟨[(2,.ptr 3 1 0),(3,.ptr 4 1 0),(4,.ptr 5 1 0),(12,.imm (.int .i64 (a.items.length:Nat))),(13,.imm (.int .i64 (k:Nat)))],[.dead 1,.map (.int .i64) 1 (mkL kI IV.bool r.jf),.map kkC 1 (mkL kv2 eiv r.cors),.box 1 [.row 0 1,.row 1 1,.row 2 1],.box 1 [.imm (.int .i64 a.num),.imm (.str a.title),.imm (.int .i64 a.day),.imm (.int .i64 a.sk),.imm (.int .i64 a.sd),.imm (.str a.se),.row 6 1],.box 1 [.imm (.int .i64 0),.imm (.str ⟨#[]⟩),.imm (.int .i64 0),.imm (.int .i64 0),.imm (.int .i64 0),.imm (.str ⟨#[]⟩),.imm .nil],rwI 1 (uL r.cors a.num a.items k)]⟩) (fun k=>k≤a.items.length) (fun k=>a.items.length - k) 0 (Nat.zero_le _) ((qSL 7 rfl rfl (hE:=by (repeat ((conv=>whnf);first|exact trivial|refine And.intro (by first|exact av.any|exact av.eq (by with_reducible rfl) rfl|exact av.eq (congrArg (fun z=>PV.imm (IV.int IntKind.i64 z)) (by first|omega|(simp[hmi2];done)|(simp[hmi2];omega))) rfl|exact av.eq (by first|(simp[hmi2];done)|fail) rfl|exact av.eq rfl rfl|exact av.le rfl (ILe.nil _)) ?_))))) ?_
 intro k hk
 have hho:=Nat.lt_or_ge k a.items.length
 cases hho with
 |inl hlt=>
  refine (?_:∀Q:Exit→AS→Prop,vcS _ _ _ _ _ _ _ (dV _ _ _ _ _ _ Q)) _;intro Q
  obtain⟨x,hx⟩:∃x,a.items[k]?=some x:=⟨a.items[k],List.getElem?_eq_getElem hlt⟩
  have hat:=Qf (m:=r.cors) (n:=a.num) hx
  have hst:=LH (m:=r.cors) (n:=a.num) hx
  have hkl:=O4 r.cors a.num a.items k
  generalize uL r.cors a.num a.items k=R at *
  have hCo:=BG r a R k x hat hm
  have hrl:((R.map itv).map PV.imm).length=R.length:=by simp
  have hrx:((R.map itv).map PV.imm)[k]?=some (.imm (itv x)):=by simp[hat]
  generalize mF r.cors a.num k x=y at *
  rw[aR x]at hrx
  rw[aR y]at hCo
  (try (conv=>whnf));(repeat ((first|refine qT ?_|refine qF ?_|refine qO ?_|(with_reducible intro z hz);(first|(replace hz:=hz (by omega);subst hz)|subst hz));(try (conv=>whnf))))
  refine bN.mk (R.map itv) rfl ?_
  refine bV.mk ([.imm (itv y)]) (SV r R) (hB _ _ _ _ _ (by rw[aR y];exact hCo)) ?_
  rw[aR y]
  (try (conv=>whnf));(repeat ((first|refine qT ?_|refine qF ?_|refine qO ?_|(with_reducible intro z hz);(first|(replace hz:=hz (by omega);subst hz)|subst hz));(try (conv=>whnf))))
  refine Pos.mk k rfl (by omega) ?_
  (try (conv=>whnf));(repeat ((first|refine qT ?_|refine qF ?_|refine qO ?_|(with_reducible intro z hz);(first|(replace hz:=hz (by omega);subst hz)|subst hz));(try (conv=>whnf))))
  refine At.mk _ hrx ?_
  (try (conv=>whnf));(repeat ((first|refine qT ?_|refine qF ?_|refine qO ?_|(with_reducible intro z hz);(first|(replace hz:=hz (by omega);subst hz)|subst hz));(try (conv=>whnf))))
  exact⟨k+1,by omega,by dsimp only;omega,((aC.row 6 ((((uL r.cors a.num a.items (k+1)).map itv).map .imm)) rfl (by rw[←hst];simp[List.map_set,aR y];rfl)).trans (qSL 7 rfl rfl))⟩
 |inr hge=>
  obtain rfl:k=a.items.length:=by omega
  rw[show uL r.cors a.num a.items a.items.length=lD r.cors a.num 0 a.items by unfold uL;rw[List.take_length,List.drop_length,List.append_nil]]
  (try (conv=>whnf));(repeat ((first|refine qT ?_|refine qF ?_|refine qO ?_|(with_reducible intro z hz);(first|(replace hz:=hz (by omega);subst hz)|subst hz));(try (conv=>whnf))))
  refine bN.mk ((lD r.cors a.num 0 a.items).map itv) rfl ?_
  (try (conv=>whnf));(repeat ((first|refine qT ?_|refine qF ?_|refine qO ?_|(with_reducible intro z hz);(first|(replace hz:=hz (by omega);subst hz)|subst hz));(try (conv=>whnf))))
  exact hfin _ (qSL 3 rfl rfl)
end Go.Proofs.YtfjibfdelbodjaaGreat.Po
namespace Go.Proofs.YtfjibfdelbodjaaGreat.Po
open Go Go.Pv Go.RowKit
set_option linter.unusedSimpArgs false
open Lab Lcs Go.Proofs.YtfjibfdelbodjaaGreat Go.Proofs.YtfjibfdelbodjaaGreat.Pu
open Go.Sort (SWO)
open Go.Proofs (ltOf)
theorem jc {a b:Int}:fV a b < 0↔a < b:=by unfold fV;repeat' split;all_goals omega
theorem gW {a b:Int}:fV a b=0↔a=b:=by unfold fV;repeat' split;all_goals omega
theorem Qm {a b:Ei}:fD a b < 0↔a.day < b.day∨(a.day=b.day∧(a.act < b.act∨(a.act=b.act∧a.item < b.item))):=by
 unfold fD
 have h1:=@jc a.day b.day
 have h2:=@jc a.act b.act
 have h3:=@jc a.item b.item
 have h4:=@gW a.day b.day
 have h5:=@gW a.act b.act
 split
 ·rename_i h;rw[h1];have:¬a.day=b.day:=fun e=>h (h4.2 e);omega
 ·rename_i h
  have e1:a.day=b.day:=h4.1 (by omega)
  split
  ·rename_i g;rw[h2];have:¬a.act=b.act:=fun e=>g (h5.2 e);omega
  ·rename_i g
   have e2:a.act=b.act:=h5.1 (by omega)
   rw[h3];omega
theorem qV {a b:Ei}:ltOf fD a b=true↔a.day < b.day∨(a.day=b.day∧(a.act < b.act∨(a.act=b.act∧a.item < b.item))):=by
 unfold ltOf;rw[decide_eq_true_iff,Qm]
theorem lH {a b:Ei}:ltOf fD a b=false↔¬(a.day < b.day∨(a.day=b.day∧(a.act < b.act∨(a.act=b.act∧a.item < b.item)))):=by
 rw[←qV];simp
theorem Lx:SWO (ltOf fD) where
 irrefl x:=by rw[lH];omega
 trans x y z h1 h2:=by rw[qV]at *;omega
 ntrans x y z h1 h2:=by rw[lH]at *;omega
def wS (a b:Ei):Prop:=a.day=b.day∧a.act=b.act∧a.item=b.item
theorem uz:∀{l l':List Ei},l'.Perm l→(∀x∈l,∀y∈l,wS x y→x=y)→l.Pairwise (fun a b=>ltOf fD b a=false)→l'.Pairwise (fun a b=>ltOf fD b a=false)→l'=l
 |[],l',hp,_,_,_=>List.Perm.eq_nil hp
 |a::l,[],hp,_,_,_=>by have:=hp.length_eq;simp at this
 |a::l,b::l',hp,hd,hs,hs'=>by
  have hab:a=b:=by
   rw[List.pairwise_cons]at hs hs'
   have h1:ltOf fD b a=false:=by
    rcases List.mem_cons.1 (hp.subset List.mem_cons_self) with h|h
    ·rw[h];exact Lx.irrefl a
    ·exact hs.1 b h
   have h2:ltOf fD a b=false:=by
    rcases List.mem_cons.1 (hp.symm.subset List.mem_cons_self) with h|h
    ·rw[h];exact Lx.irrefl b
    ·exact hs'.1 a h
   refine hd a List.mem_cons_self b (hp.subset List.mem_cons_self) ?_
   rw[lH]at h1 h2
   unfold wS
   omega
  subst hab
  rw[List.pairwise_cons]at hs hs'
  rw[uz (hp.cons_inv) (fun x hx y hy=>hd x (List.mem_cons_of_mem _ hx) y (List.mem_cons_of_mem _ hy)) hs.2 hs'.2]
def rA (l:List Ei):List Ei:=l.mergeSort fun a b=>!(ltOf fD b a)
theorem lX (l:List Ei):(rA l).Perm l:=List.mergeSort_perm ..
theorem Bj (l:List Ei):(rA l).Pairwise fun a b=>ltOf fD b a=false:=by
 have h:=List.pairwise_mergeSort (le:=fun a b=>!(ltOf fD b a)) (fun a b c h1 h2=>by
  simp only[Bool.not_eq_true']at *
  exact Lx.ntrans c b a h2 h1) (fun a b=>by
  simp only[Bool.or_eq_true,Bool.not_eq_true']
  by_cases h:ltOf fD b a=true
  ·right;rw[lH];rw[qV]at h;omega
  ·left;simpa using h) l
 exact h.imp fun h=>by simpa using h
theorem vM {l l':List Ei} (hp:l'.Perm l) (hd:∀x∈l,∀y∈l,wS x y→x=y) (hs:l'.Pairwise fun a b=>ltOf fD b a=false):l'=rA l:=
 uz (hp.trans (lX l).symm) (fun x hx y hy=>hd x ((lX l).subset hx) y ((lX l).subset hy)) (Bj l) hs
end Go.Proofs.YtfjibfdelbodjaaGreat.Po
namespace Go.Proofs.YtfjibfdelbodjaaGreat.Po
open Go Go.Pv Go.RowKit
set_option linter.unusedSimpArgs false
open Lab Lcs Go.Proofs.YtfjibfdelbodjaaGreat Go.Proofs.YtfjibfdelbodjaaGreat.Pu
open Go.Sort (SWO)
open Go.Proofs (ltOf)
theorem xE {n d:Int}:∀{l:List It} {i:Nat} {e:Ei},e∈eH n d i l→e.act=n∧e.day=d∧(i:Int)≤e.item∧e.item < i+l.length∧∃k x,l[k]?=some x∧e=⟨n,((i+k:Nat):Int),d,x⟩
 |[],_,_,h=>by cases h
 |y::l,i,e,h=>by
  rw[eH]at h
  rcases List.mem_cons.1 h with rfl|h
  ·exact⟨rfl,rfl,Int.le_refl _,by simp;omega,0,y,rfl,by simp⟩
  ·obtain⟨h1,h2,h3,h4,k,x,h5,h6⟩:=xE h
   exact⟨h1,h2,by omega,by rw[List.length_cons];omega,k+1,x,by simpa using h5,by rw[h6];congr 2;omega⟩
theorem jg {a:Ac} {e:Ei} (h:e∈eiA a):∃(k:Nat) (x:It),a.items[k]?=some x∧e=⟨a.num,(k:Int),a.day,x⟩:=by
 obtain⟨_,_,_,_,k,x,h5,h6⟩:=xE h
 exact⟨k,x,h5,by rw[h6];congr 2;omega⟩
theorem UD {n d:Int}:∀{l:List It} {k i:Nat} {x:It},l[k]?=some x→(⟨n,((i+k:Nat):Int),d,x⟩:Ei)∈eH n d i l
 |[],_,_,_,h=>by simp at h
 |y::l,0,i,x,h=>by
  obtain rfl:y=x:=by simpa using h
  rw[eH,Nat.add_zero]
  exact List.mem_cons_self
 |y::l,k+1,i,x,h=>by
  rw[eH]
  have:=UD (n:=n) (d:=d) (i:=i+1) (l:=l) (k:=k) (x:=x) (by simpa using h)
  rw[show i+(k+1)=i+1+k by omega]
  exact List.mem_cons_of_mem _ this
theorem Vd {a:Ac} {k:Nat} {x:It} (h:a.items[k]?=some x):(⟨a.num,(k:Int),a.day,x⟩:Ei)∈eiA a:=by
 have:=UD (n:=a.num) (d:=a.day) (i:=0) h
 rwa [Nat.zero_add]at this
theorem F9 {a:Ac} {x y:Ei} (hx:x∈eiA a) (hy:y∈eiA a) (h:x.item=y.item):x=y:=by
 obtain⟨k,u,h1,rfl⟩:=jg hx
 obtain⟨j,v,h2,rfl⟩:=jg hy
 simp only at h
 obtain rfl:k=j:=by omega
 rw[h1]at h2
 injection h2 with h2
 rw[h2]
structure jE (Q:Ac→Prop) (r:Rg):Prop where
 key:∀p∈r.acts,p.1=p.2.num
 nodup:(r.acts.map Prod.fst).Nodup
 ok:∀p∈r.acts,Q p.2
 cor:∀n i e,aP r.cors (n,i)=some e→isC e.it=true∧gK e=(n,i)∧∃a,Q a∧e∈eiA a
theorem OB {Q:Ac→Prop} {m:eT} {d:Ei} (h:∀n i e,aP m (n,i)=some e→isC e.it=true∧gK e=(n,i)∧∃a,Q a∧e∈eiA a) (hd:isC d.it=true) (hq:∃a,Q a∧d∈eiA a):∀n i e,aP (rZ m d) (n,i)=some e→isC e.it=true∧gK e=(n,i)∧∃a,Q a∧e∈eiA a:=by
 intro n i e he
 have hput:∀e,aP (cB m (gK d) d) (n,i)=some e→isC e.it=true∧gK e=(n,i)∧∃a,Q a∧e∈eiA a:=fun e he=>by
  rw[eX]at he
  split at he
  ·rename_i hr
   injection he with he
   rw[←he]
   exact⟨hd,hr,hq⟩
  ·exact h n i e he
 unfold rZ at he
 split at he
 ·exact hput e he
 ·split at he
  ·exact hput e he
  ·exact h n i e he
theorem Dm {Q:Ac→Prop} {a:Ac} (hq:Q a):∀(l:List Ei) (m:eT),(∀e∈l,e∈eiA a)→(∀n i e,aP m (n,i)=some e→isC e.it=true∧gK e=(n,i)∧∃a,Q a∧e∈eiA a)→∀n i e,aP (l.foldl pz m) (n,i)=some e→isC e.it=true∧gK e=(n,i)∧∃a,Q a∧e∈eiA a
 |[],m,_,h=>h
 |d::l,m,hl,h=>by
  rw[List.foldl_cons]
  refine Dm hq l _ (fun e he=>hl e (List.mem_cons_of_mem _ he)) ?_
  unfold pz
  split
  ·rename_i hd
   exact OB h hd ⟨a,hq,hl d List.mem_cons_self⟩
  ·exact h
theorem LX {Q:Ac→Prop} {r:Rg} {a:Ac} (h:jE Q r) (hq:Q a):jE Q (gU r a):=by
 unfold gU
 cases hl:aP r.acts a.num with
 |some b=>exact⟨h.key,h.nodup,h.ok,h.cor⟩
 |none=>
  dsimp only
  rw[qy hl]
  refine⟨fun p hp=>?_,?_,fun p hp=>?_,Dm hq (eiA a) r.cors (fun e he=>he) h.cor⟩
  ·rcases List.mem_append.1 hp with hp|hp
   ·exact h.key p hp
   ·obtain rfl:=List.mem_singleton.1 hp;rfl
  ·rw[List.map_append,List.nodup_append]
   refine⟨h.nodup,by simp,?_⟩
   intro x hx y hy
   simp only[List.map_cons,List.map_nil,List.mem_singleton]at hy
   subst hy
   intro e
   rw[e]at hx
   exact (fI.1 hl) hx
  ·rcases List.mem_append.1 hp with hp|hp
   ·exact h.ok p hp
   ·obtain rfl:=List.mem_singleton.1 hp;exact hq
theorem EC {Q:Ac→Prop}:jE Q ⟨[],[],[]⟩:=⟨fun _ h=>(by cases h),List.nodup_nil,fun _ h=>(by cases h),fun _ _ _ h=>(by cases h)⟩
theorem sG {Q:Ac→Prop}:∀(l:List Ac) (r:Rg),(∀a∈l,Q a)→jE Q r→jE Q (l.foldl gU r)
 |[],_,_,h=>h
 |a::l,_,hl,h=>sG l _ (fun b hb=>hl b (List.mem_cons_of_mem _ hb)) (LX h (hl a List.mem_cons_self))
theorem FE {Q:Ac→Prop}:∀(l:List Gz) (r:Rg),(∀g∈l,∀a∈g.acts,Q a)→jE Q r→jE Q (l.foldl vS r)
 |[],_,_,h=>h
 |g::l,r,hl,h=>FE l _ (fun b hb=>hl b (List.mem_cons_of_mem _ hb)) (sG g.acts r (hl g List.mem_cons_self) h)
theorem nT {Q:Ac→Prop} {l:List Gz} (hl:∀g∈l,∀a∈g.acts,Q a):jE Q (lG l):=FE l _ hl EC
theorem ML {x:It} (h:isC x=true):∃y q,x.bys=y::q:=by
 unfold isC at h
 cases hb:x.bys with
 |nil=>rw[hb]at h;simp at h
 |cons y r=>exact⟨y,r,rfl⟩
theorem jE.okc {Q:Ac→Prop} {r:Rg} (h:jE Q r):RP r.cors:=fun n i e he=>ML (h.cor n i e he).1
def iC (m:eT) (l:AcM):List Ei:=l.flatMap fun p=>eiA (rO m p.2)
def ku (r:Rg):List Ei:=iC r.cors r.acts
theorem sF {κ ν:Type} {p q:κ×ν}:∀{l:List (κ×ν)},(l.map Prod.fst).Nodup→p∈l→q∈l→p.1=q.1→p=q
 |[],_,h,_,_=>by cases h
 |x::l,hn,hp,hq,e=>by
  rw[List.map_cons,List.nodup_cons]at hn
  rcases List.mem_cons.1 hp with h1|hp
  ·rcases List.mem_cons.1 hq with h2|hq
   ·rw[h1,h2]
   ·exact absurd (show x.1∈l.map Prod.fst by rw[←h1,e];exact List.mem_map_of_mem hq) hn.1
  ·rcases List.mem_cons.1 hq with h2|hq
   ·exact absurd (show x.1∈l.map Prod.fst by rw[←h2,←e];exact List.mem_map_of_mem hp) hn.1
   ·exact sF hn.2 hp hq e
theorem Lm {m:eT}:∀{l:AcM},(∀p∈l,p.1=p.2.num)→(l.map Prod.fst).Nodup→∀x∈iC m l,∀y∈iC m l,wS x y→x=y:=by
 intro l hk hn x hx y hy hs
 unfold iC at hx hy
 obtain⟨p,hp,hx⟩:=List.mem_flatMap.1 hx
 obtain⟨q,hq,hy⟩:=List.mem_flatMap.1 hy
 have hx0:=hx
 have hy0:=hy
 obtain⟨k,u,h1,rfl⟩:=jg hx
 obtain⟨j,v,h2,rfl⟩:=jg hy
 obtain⟨s1,s2,s3⟩:=hs
 simp only[rO]at s2
 have hpq:p=q:=by
  have e:p.1=q.1:=by rw[hk p hp,hk q hq];exact s2
  exact sF hn hp hq e
 subst hpq
 exact F9 hx0 hy0 s3
theorem vI {Q:Ac→Prop} {r:Rg} (h:jE Q r):∀x∈ku r,∀y∈ku r,wS x y→x=y:=Lm h.key h.nodup
end Go.Proofs.YtfjibfdelbodjaaGreat.Po
