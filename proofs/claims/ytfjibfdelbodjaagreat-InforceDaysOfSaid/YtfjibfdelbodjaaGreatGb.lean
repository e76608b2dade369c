/-
  Corpus: items and acts as corrected. Corpus: an act as corrected. Corpus: legal order of enacted items as an order; sorted lists of them (of no program but for the names). Corpus: what holds of every register (of no program but for the names).
-/
import Derived.Test.YtfjibfdelbodjaaGreatGa
import Derived.Test.YtfjibfdelbodjaaGreatSov
namespace Go.Proofs.YtfjibfdelbodjaaGreat.Po
open Go Go.Pv Go.RowKit
set_option linter.unusedSimpArgs false
open Lab Lcs Go.Proofs.YtfjibfdelbodjaaGreat Go.Proofs.YtfjibfdelbodjaaGreat.Pu
set_option maxRecDepth 10000
set_option maxHeartbeats 32000000
def kR (m:eX) (n i:Int) (x:It):It:=match aO m (n,i) with
 |some e=>if chB x.kind=true then e.it.bys.headD x else x
 |none=>x
def TF (m:eX):Prop:=∀n i e,aO m (n,i)=some e→∃y r,e.it.bys=y::r
end Go.Proofs.YtfjibfdelbodjaaGreat.Po
namespace Go.Proofs.YtfjibfdelbodjaaGreat.Po
open Go Go.Pv Go.RowKit
set_option linter.unusedSimpArgs false
open Lab Lcs Go.Proofs.YtfjibfdelbodjaaGreat Go.Proofs.YtfjibfdelbodjaaGreat.Pu
set_option maxRecDepth 10000
set_option maxHeartbeats 32000000
abbrev rgD (r:Rg):List Blk:=[.dead 1,.map (.int .i64) 1 (mkL kI IV.bool r.jm),.map kkC 1 (mkL kv2 eiv r.cors)]
abbrev UL (r:Rg):List CBk:=[.dead 1,.map (.int .i64) 1 (mkL kI IV.bool r.jm),.map kkC 1 (mkL kv2 eiv r.cors)]
abbrev rwI (g:Nat) (l:List It):Blk:=.row 45 25 g ((l.map itv).map .imm)
abbrev UE (g:Nat) (l:List It):CBk:=.row 45 25 g (l.map itv)
abbrev TY (r:Rg) (l:List It):List Blk:=[.dead 1,.map (.int .i64) 1 (mkL kI IV.bool r.jm),.map kkC 1 (mkL kv2 eiv r.cors),rwI 1 l]
abbrev Us (r:Rg) (l:List It):List CBk:=[.dead 1,.map (.int .i64) 1 (mkL kI IV.bool r.jm),.map kkC 1 (mkL kv2 eiv r.cors),UE 1 l]
theorem Cj (r:Rg) (a:Ac) (its:List It) (i:Nat) (x:It) (hx:its[i]?=some x) (hm:TF r.cors) :
  PCB Tryz.prog aM 124 [.agg [.row 0 1,.row 1 1,.row 2 1],.agg [.imm (.int .i64 a.num),.imm (.str a.title),.imm (.int .i64 a.day),.imm (.int .i64 a.sk),.imm (.int .i64 a.sd),.imm (.str a.se),.row 3 1],.imm (.int .i64 (i:Nat))] (TY r its) [.imm (itv (kR r.cors a.num i x))] (TY r its):=by
 have hk:=Ey r.cors a.num (i:Nat)
 have hA:=oN x.kind
 have hlt:=(List.getElem?_eq_some_iff.1 hx).1
 have hmi:(its.map itv).length=its.length:=List.length_map _
 have hmi2:((its.map itv).map PV.imm).length=its.length:=by simp
 have hrx:((its.map itv).map PV.imm)[i]?=some (.imm (itv x)):=by simp[hx]
 cases hl:aO r.cors (a.num,(i:Int)) with
 |none=>
  rw[hl]at hk
  have hc:kR r.cors a.num i x=x:=by unfold kR;rw[hl]
  rw[hc]
  rw[aT x]at hrx ⊢
  refine PCB.ak (T:=MI) aB kP rfl mixed Tryz.func124 rfl rfl rfl (Nat.le_of_ble_eq_true rfl) rfl ?_;intro Γ C WK LP fin h0 hk0 hW hC hB hR hLP hfin
  have h03:Γ.n0=4:=h0
  (try (conv=>whnf));(repeat ((first|refine qT ?_|refine qF ?_|refine qO ?_|(with_reducible intro z hz);(first|(replace hz:=hz (by omega);subst hz)|subst hz));(try (conv=>whnf))))
  refine Pos.mk i rfl (by omega) ?_
  (try (conv=>whnf));(repeat ((first|refine qT ?_|refine qF ?_|refine qO ?_|(with_reducible intro z hz);(first|(replace hz:=hz (by omega);subst hz)|subst hz));(try (conv=>whnf))))
  refine At.mk _ hrx ?_
  (try (conv=>whnf));(repeat ((first|refine qT ?_|refine qF ?_|refine qO ?_|(with_reducible intro z hz);(first|(replace hz:=hz (by omega);subst hz)|subst hz));(try (conv=>whnf))))
  refine gP.mk QV false (by rw[hk];rfl) (by rw[hk];rfl) ?_
  (try (conv=>whnf));(repeat ((first|refine qT ?_|refine qF ?_|refine qO ?_|(with_reducible intro z hz);(first|(replace hz:=hz (by omega);subst hz)|subst hz));(try (conv=>whnf))))
  exact hfin _ (qSL 4 rfl rfl)
 |some e=>
  rw[hl]at hk
  obtain⟨y,q,hy⟩:=hm _ _ _ hl
  have hy1:(e.it.bys.map itv).length=q.length+1:=by rw[hy];simp
  cases hb:chB x.kind with
  |true=>
   have hc:kR r.cors a.num i x=y:=by unfold kR;rw[hl];simp[hb,hy]
   rw[hc]
   rw[hb]at hA
   rw[aT x]at hrx
   rw[aT y]
   refine PCB.ak (T:=MI) aB kP rfl mixed Tryz.func124 rfl rfl rfl (Nat.le_of_ble_eq_true rfl) rfl ?_;intro Γ C WK LP fin h0 hk0 hW hC hB hR hLP hfin
   have h03:Γ.n0=4:=h0
   (try (conv=>whnf));(repeat ((first|refine qT ?_|refine qF ?_|refine qO ?_|(with_reducible intro z hz);(first|(replace hz:=hz (by omega);subst hz)|subst hz));(try (conv=>whnf))))
   refine Pos.mk i rfl (by omega) ?_
   (try (conv=>whnf));(repeat ((first|refine qT ?_|refine qF ?_|refine qO ?_|(with_reducible intro z hz);(first|(replace hz:=hz (by omega);subst hz)|subst hz));(try (conv=>whnf))))
   refine At.mk _ hrx ?_
   (try (conv=>whnf));(repeat ((first|refine qT ?_|refine qF ?_|refine qO ?_|(with_reducible intro z hz);(first|(replace hz:=hz (by omega);subst hz)|subst hz));(try (conv=>whnf))))
   refine gP.mk (eiv e) true (by rw[hk];rfl) (by rw[hk];rfl) ?_
   rw[fD e]
   (try (conv=>whnf));(repeat ((first|refine qT ?_|refine qF ?_|refine qO ?_|(with_reducible intro z hz);(first|(replace hz:=hz (by omega);subst hz)|subst hz)|(refine ah.mk _ (hC _ _ _ (PCw.of hA)) (fun js hjs=>?_);subst hjs));(try (conv=>whnf))))
   refine Idx.mk 0 (itv y) _ rfl (by rw[hy];rfl) (by rw[aT y]) ?_
   (try (conv=>whnf));(repeat ((first|refine qT ?_|refine qF ?_|refine qO ?_|(with_reducible intro z hz);(first|(replace hz:=hz (by omega);subst hz)|subst hz));(try (conv=>whnf))))
   exact hfin _ (qSL 4 rfl rfl)
  |false=>
   have hc:kR r.cors a.num i x=x:=by unfold kR;rw[hl];simp[hb]
   rw[hc]
   rw[hb]at hA
   rw[aT x]at hrx ⊢
   refine PCB.ak (T:=MI) aB kP rfl mixed Tryz.func124 rfl rfl rfl (Nat.le_of_ble_eq_true rfl) rfl ?_;intro Γ C WK LP fin h0 hk0 hW hC hB hR hLP hfin
   have h03:Γ.n0=4:=h0
   (try (conv=>whnf));(repeat ((first|refine qT ?_|refine qF ?_|refine qO ?_|(with_reducible intro z hz);(first|(replace hz:=hz (by omega);subst hz)|subst hz));(try (conv=>whnf))))
   refine Pos.mk i rfl (by omega) ?_
   (try (conv=>whnf));(repeat ((first|refine qT ?_|refine qF ?_|refine qO ?_|(with_reducible intro z hz);(first|(replace hz:=hz (by omega);subst hz)|subst hz));(try (conv=>whnf))))
   refine At.mk _ hrx ?_
   (try (conv=>whnf));(repeat ((first|refine qT ?_|refine qF ?_|refine qO ?_|(with_reducible intro z hz);(first|(replace hz:=hz (by omega);subst hz)|subst hz));(try (conv=>whnf))))
   refine gP.mk (eiv e) true (by rw[hk];rfl) (by rw[hk];rfl) ?_
   rw[fD e]
   (try (conv=>whnf));(repeat ((first|refine qT ?_|refine qF ?_|refine qO ?_|(with_reducible intro z hz);(first|(replace hz:=hz (by omega);subst hz)|subst hz)|(refine ah.mk _ (hC _ _ _ (PCw.of hA)) (fun js hjs=>?_);subst hjs));(try (conv=>whnf))))
   exact hfin _ (qSL 4 rfl rfl)
def jr (m:eX) (n:Int):Nat→List It→List It
 |_,[]=>[]
 |i,x::l=>kR m n i x::jr m n (i+1) l
theorem Gy (m:eX) (n:Int):∀(a b:List It) (i:Nat),jr m n i (a++b)=jr m n i a++jr m n (i+a.length) b
 |[],b,i=>by simp[jr]
 |x::a,b,i=>by
  simp only[List.cons_append,jr,List.length_cons]
  rw[Gy m n a b (i+1),show i+1+a.length=i+(a.length+1) by omega]
theorem lG (m:eX) (n:Int):∀(l:List It) (i:Nat),(jr m n i l).length=l.length
 |[],_=>rfl
 |x::l,i=>by simp[jr,lG m n l (i+1)]
def vo (m:eX) (n:Int) (l:List It) (k:Nat):List It:=jr m n 0 (l.take k)++l.drop k
theorem Ph (m:eX) (n:Int) (l:List It) (k:Nat):(vo m n l k).length=l.length:=by
 unfold vo
 rw[List.length_append,lG,List.length_take,List.length_drop];omega
theorem QG {m:eX} {n:Int} {l:List It} {k:Nat} {x:It} (hx:l[k]?=some x):(vo m n l k)[k]?=some x:=by
 have hk:=(List.getElem?_eq_some_iff.1 hx).1
 have hl:(jr m n 0 (l.take k)).length=k:=by rw[lG,List.length_take];omega
 unfold vo
 rw[List.getElem?_append_right (by omega),hl,Nat.sub_self,List.getElem?_drop]
 exact hx
theorem Me {m:eX} {n:Int} {l:List It} {k:Nat} {x:It} (hx:l[k]?=some x):(vo m n l k).set k (kR m n k x)=vo m n l (k+1):=by
 have hk:=(List.getElem?_eq_some_iff.1 hx).1
 have hl:(jr m n 0 (l.take k)).length=k:=by rw[lG,List.length_take];omega
 have ht:(l.take k).length=k:=by rw[List.length_take];omega
 have hd:l.drop k=x::l.drop (k+1):=by rw[List.drop_eq_getElem_cons hk];congr 1;exact (List.getElem?_eq_some_iff.1 hx).2
 unfold vo
 rw[List.set_append_right _ _ (by omega),hl,Nat.sub_self,hd,List.set_cons_zero,take_at hx,Gy,ht,Nat.zero_add]
 simp[jr]
def pR (m:eX) (a:Ac):Ac:=⟨a.num,a.title,a.day,a.sk,a.sd,a.se,jr m a.num 0 a.items⟩
theorem yQ (r:Rg) (a:Ac) (hm:TF r.cors) (hs:a.items.length≤1000000) :
  PCB Tryz.prog aM 78 [.agg [.row 0 1,.row 1 1,.row 2 1],.imm (acv a)] (rgD r) [.imm (acv (pR r.cors a))] (rgD r):=by
 have hI1:=xU (X:=aM) (a.items.map itv) (by simp;omega)
 have hmi:(a.items.map itv).length=a.items.length:=List.length_map _
 have hmi2:((a.items.map itv).map PV.imm).length=a.items.length:=by simp
 unfold acv pR
 refine PCB.ak (T:=(Uz fun r=>match r with|7=>[6]|_=>[])) aB kP rfl mixed Tryz.func78 rfl rfl rfl (Nat.le_of_ble_eq_true rfl) rfl ?_;intro Γ C WK LP fin h0 hk0 hW hC hB hR hLP hfin
 have h03:Γ.n0=3:=h0
 (try (conv=>whnf));(repeat ((first|refine qT ?_|refine qF ?_|refine qO ?_|(with_reducible intro z hz);(first|(replace hz:=hz (by omega);subst hz)|subst hz));(try (conv=>whnf))))
 refine ah.row _ _ _ (hR _ _ _ _ _ (vw.of (hI1))) (fun js hjs=>?_);subst hjs
 (try (conv=>whnf));(repeat ((first|refine qT ?_|refine qF ?_|refine qO ?_|(with_reducible intro z hz);(first|(replace hz:=hz (by omega);subst hz)|subst hz));(try (conv=>whnf))))
 refine hLP _ _ _ Nat (fun k=>⟨[(2,.ptr 3 1 0),(3,.ptr 4 1 0),(4,.ptr 5 1 0),(12,.imm (.int .i64 (a.items.length:Nat))),(13,.imm (.int .i64 (k:Nat)))],[.dead 1,.map (.int .i64) 1 (mkL kI IV.bool r.jm),.map kkC 1 (mkL kv2 eiv r.cors),.box 1 [.row 0 1,.row 1 1,.row 2 1],.box 1 [.imm (.int .i64 a.num),.imm (.str a.title),.imm (.int .i64 a.day),.imm (.int .i64 a.sk),.imm (.int .i64 a.sd),.imm (.str a.se),.row 6 1],.box 1 [.imm (.int .i64 0),.imm (.str ⟨#[]⟩),.imm (.int .i64 0),.imm (.int .i64 0),.imm (.int .i64 0),.imm (.str ⟨#[]⟩),.imm .nil],rwI 1 (vo r.cors a.num a.items k)]⟩) (fun k=>k≤a.items.length) (fun k=>a.items.length - k) 0 (Nat.zero_le _) ((qSL 7 rfl rfl (hE:=by (repeat ((conv=>whnf);first|exact trivial|refine And.intro (by first|exact aj.any|exact aj.eq (by with_reducible rfl) rfl|exact aj.eq (congrArg (fun z=>PV.imm (IV.int IntKind.i64 z)) (by first|omega|(simp[hmi2];done)|(simp[hmi2];omega))) rfl|exact aj.eq (by first|(simp[hmi2];done)|fail) rfl|exact aj.eq rfl rfl|exact aj.le rfl (ILe.nil _)) ?_))))) ?_
 intro k hk
 have hho:=Nat.lt_or_ge k a.items.length
 cases hho with
 |inl hlt=>
  refine (?_:∀Q:Exit→AS→Prop,vcS _ _ _ _ _ _ _ (dZ _ _ _ _ _ _ Q)) _;intro Q
  obtain⟨x,hx⟩:∃x,a.items[k]?=some x:=⟨a.items[k],List.getElem?_eq_getElem hlt⟩
  have hat:=QG (m:=r.cors) (n:=a.num) hx
  have hst:=Me (m:=r.cors) (n:=a.num) hx
  have hkl:=Ph r.cors a.num a.items k
  generalize vo r.cors a.num a.items k=R at *
  have hCo:=Cj r a R k x hat hm
  have hrl:((R.map itv).map PV.imm).length=R.length:=by simp
  have hrx:((R.map itv).map PV.imm)[k]?=some (.imm (itv x)):=by simp[hat]
  generalize kR r.cors a.num k x=y at *
  rw[aT x]at hrx
  rw[aT y]at hCo
  (try (conv=>whnf));(repeat ((first|refine qT ?_|refine qF ?_|refine qO ?_|(with_reducible intro z hz);(first|(replace hz:=hz (by omega);subst hz)|subst hz));(try (conv=>whnf))))
  refine bK.mk (R.map itv) rfl ?_
  refine bG.mk ([.imm (itv y)]) (Us r R) (hB _ _ _ _ _ (by rw[aT y];exact hCo)) ?_
  rw[aT y]
  (try (conv=>whnf));(repeat ((first|refine qT ?_|refine qF ?_|refine qO ?_|(with_reducible intro z hz);(first|(replace hz:=hz (by omega);subst hz)|subst hz));(try (conv=>whnf))))
  refine Pos.mk k rfl (by omega) ?_
  (try (conv=>whnf));(repeat ((first|refine qT ?_|refine qF ?_|refine qO ?_|(with_reducible intro z hz);(first|(replace hz:=hz (by omega);subst hz)|subst hz));(try (conv=>whnf))))
  refine At.mk _ hrx ?_
  (try (conv=>whnf));(repeat ((first|refine qT ?_|refine qF ?_|refine qO ?_|(with_reducible intro z hz);(first|(replace hz:=hz (by omega);subst hz)|subst hz));(try (conv=>whnf))))
  exact⟨k+1,by omega,by dsimp only;omega,((aA.row 6 ((((vo r.cors a.num a.items (k+1)).map itv).map .imm)) rfl (by rw[←hst];simp[List.map_set,aT y];rfl)).trans (qSL 7 rfl rfl))⟩
 |inr hge=>
  obtain rfl:k=a.items.length:=by omega
  rw[show vo r.cors a.num a.items a.items.length=jr r.cors a.num 0 a.items by unfold vo;rw[List.take_length,List.drop_length,List.append_nil]]
  (try (conv=>whnf));(repeat ((first|refine qT ?_|refine qF ?_|refine qO ?_|(with_reducible intro z hz);(first|(replace hz:=hz (by omega);subst hz)|subst hz));(try (conv=>whnf))))
  refine bK.mk ((jr r.cors a.num 0 a.items).map itv) rfl ?_
  (try (conv=>whnf));(repeat ((first|refine qT ?_|refine qF ?_|refine qO ?_|(with_reducible intro z hz);(first|(replace hz:=hz (by omega);subst hz)|subst hz));(try (conv=>whnf))))
  exact hfin _ (qSL 3 rfl rfl)
end Go.Proofs.YtfjibfdelbodjaaGreat.Po
namespace Go.Proofs.YtfjibfdelbodjaaGreat.Po
open Go Go.Pv Go.RowKit
set_option linter.unusedSimpArgs false
open Lab Lcs Go.Proofs.YtfjibfdelbodjaaGreat Go.Proofs.YtfjibfdelbodjaaGreat.Pu
open Go.Sort (SWO)
open Go.Proofs (ltOf)
theorem jk {a b:Int}:dW a b < 0↔a < b:=by unfold dW;repeat' split;all_goals omega
theorem gY {a b:Int}:dW a b=0↔a=b:=by unfold dW;repeat' split;all_goals omega
theorem CZ {a b:Ei}:dJ a b < 0↔a.day < b.day∨(a.day=b.day∧(a.act < b.act∨(a.act=b.act∧a.item < b.item))):=by
 unfold dJ
 have h1:=@jk a.day b.day
 have h2:=@jk a.act b.act
 have h3:=@jk a.item b.item
 have h4:=@gY a.day b.day
 have h5:=@gY a.act b.act
 split
 ·rename_i h;rw[h1];have:¬a.day=b.day:=fun e=>h (h4.2 e);omega
 ·rename_i h
  have e1:a.day=b.day:=h4.1 (by omega)
  split
  ·rename_i g;rw[h2];have:¬a.act=b.act:=fun e=>g (h5.2 e);omega
  ·rename_i g
   have e2:a.act=b.act:=h5.1 (by omega)
   rw[h3];omega
theorem qp {a b:Ei}:ltOf dJ a b=true↔a.day < b.day∨(a.day=b.day∧(a.act < b.act∨(a.act=b.act∧a.item < b.item))):=by
 unfold ltOf;rw[decide_eq_true_iff,CZ]
theorem lY {a b:Ei}:ltOf dJ a b=false↔¬(a.day < b.day∨(a.day=b.day∧(a.act < b.act∨(a.act=b.act∧a.item < b.item)))):=by
 rw[←qp];simp
theorem LU:SWO (ltOf dJ) where
 irrefl x:=by rw[lY];omega
 trans x y z h1 h2:=by rw[qp]at *;omega
 ntrans x y z h1 h2:=by rw[lY]at *;omega
def xX (a b:Ei):Prop:=a.day=b.day∧a.act=b.act∧a.item=b.item
theorem uy:∀{l l':List Ei},l'.Perm l→(∀x∈l,∀y∈l,xX x y→x=y)→l.Pairwise (fun a b=>ltOf dJ b a=false)→l'.Pairwise (fun a b=>ltOf dJ b a=false)→l'=l
 |[],l',hp,_,_,_=>List.Perm.eq_nil hp
 |a::l,[],hp,_,_,_=>by have:=hp.length_eq;simp at this
 |a::l,b::l',hp,hd,hs,hs'=>by
  have hab:a=b:=by
   rw[List.pairwise_cons]at hs hs'
   have h1:ltOf dJ b a=false:=by
    rcases List.mem_cons.1 (hp.subset List.mem_cons_self) with h|h
    ·rw[h];exact LU.irrefl a
    ·exact hs.1 b h
   have h2:ltOf dJ a b=false:=by
    rcases List.mem_cons.1 (hp.symm.subset List.mem_cons_self) with h|h
    ·rw[h];exact LU.irrefl b
    ·exact hs'.1 a h
   refine hd a List.mem_cons_self b (hp.subset List.mem_cons_self) ?_
   rw[lY]at h1 h2
   unfold xX
   omega
  subst hab
  rw[List.pairwise_cons]at hs hs'
  rw[uy (hp.cons_inv) (fun x hx y hy=>hd x (List.mem_cons_of_mem _ hx) y (List.mem_cons_of_mem _ hy)) hs.2 hs'.2]
def qQ (l:List Ei):List Ei:=l.mergeSort fun a b=>!(ltOf dJ b a)
theorem jK (l:List Ei):(qQ l).Perm l:=List.mergeSort_perm ..
theorem BO (l:List Ei):(qQ l).Pairwise fun a b=>ltOf dJ b a=false:=by
 have h:=List.pairwise_mergeSort (le:=fun a b=>!(ltOf dJ b a)) (fun a b c h1 h2=>by
  simp only[Bool.not_eq_true']at *
  exact LU.ntrans c b a h2 h1) (fun a b=>by
  simp only[Bool.or_eq_true,Bool.not_eq_true']
  by_cases h:ltOf dJ b a=true
  ·right;rw[lY];rw[qp]at h;omega
  ·left;simpa using h) l
 exact h.imp fun h=>by simpa using h
theorem yM {l l':List Ei} (hp:l'.Perm l) (hd:∀x∈l,∀y∈l,xX x y→x=y) (hs:l'.Pairwise fun a b=>ltOf dJ b a=false):l'=qQ l:=
 uy (hp.trans (jK l).symm) (fun x hx y hy=>hd x ((jK l).subset hx) y ((jK l).subset hy)) (BO l) hs
end Go.Proofs.YtfjibfdelbodjaaGreat.Po
namespace Go.Proofs.YtfjibfdelbodjaaGreat.Po
open Go Go.Pv Go.RowKit
set_option linter.unusedSimpArgs false
open Lab Lcs Go.Proofs.YtfjibfdelbodjaaGreat Go.Proofs.YtfjibfdelbodjaaGreat.Pu
open Go.Sort (SWO)
open Go.Proofs (ltOf)
theorem yu {n d:Int}:∀{l:List It} {i:Nat} {e:Ei},e∈d9 n d i l→e.act=n∧e.day=d∧(i:Int)≤e.item∧e.item < i+l.length∧∃k x,l[k]?=some x∧e=⟨n,((i+k:Nat):Int),d,x⟩
 |[],_,_,h=>by cases h
 |y::l,i,e,h=>by
  rw[d9]at h
  rcases List.mem_cons.1 h with rfl|h
  ·exact⟨rfl,rfl,Int.le_refl _,by simp;omega,0,y,rfl,by simp⟩
  ·obtain⟨h1,h2,h3,h4,k,x,h5,h6⟩:=yu h
   exact⟨h1,h2,by omega,by rw[List.length_cons];omega,k+1,x,by simpa using h5,by rw[h6];congr 2;omega⟩
theorem iC {a:Ac} {e:Ei} (h:e∈eiA a):∃(k:Nat) (x:It),a.items[k]?=some x∧e=⟨a.num,(k:Int),a.day,x⟩:=by
 obtain⟨_,_,_,_,k,x,h5,h6⟩:=yu h
 exact⟨k,x,h5,by rw[h6];congr 2;omega⟩
theorem Ke {n d:Int}:∀{l:List It} {k i:Nat} {x:It},l[k]?=some x→(⟨n,((i+k:Nat):Int),d,x⟩:Ei)∈d9 n d i l
 |[],_,_,_,h=>by simp at h
 |y::l,0,i,x,h=>by
  obtain rfl:y=x:=by simpa using h
  rw[d9,Nat.add_zero]
  exact List.mem_cons_self
 |y::l,k+1,i,x,h=>by
  rw[d9]
  have:=Ke (n:=n) (d:=d) (i:=i+1) (l:=l) (k:=k) (x:=x) (by simpa using h)
  rw[show i+(k+1)=i+1+k by omega]
  exact List.mem_cons_of_mem _ this
theorem Sz {a:Ac} {k:Nat} {x:It} (h:a.items[k]?=some x):(⟨a.num,(k:Int),a.day,x⟩:Ei)∈eiA a:=by
 have:=Ke (n:=a.num) (d:=a.day) (i:=0) h
 rwa [Nat.zero_add]at this
theorem Gl {a:Ac} {x y:Ei} (hx:x∈eiA a) (hy:y∈eiA a) (h:x.item=y.item):x=y:=by
 obtain⟨k,u,h1,rfl⟩:=iC hx
 obtain⟨j,v,h2,rfl⟩:=iC hy
 simp only at h
 obtain rfl:k=j:=by omega
 rw[h1]at h2
 injection h2 with h2
 rw[h2]
structure iO (Q:Ac→Prop) (r:Rg):Prop where
 key:∀p∈r.acts,p.1=p.2.num
 nodup:(r.acts.map Prod.fst).Nodup
 ok:∀p∈r.acts,Q p.2
 cor:∀n i e,aO r.cors (n,i)=some e→isC e.it=true∧gT e=(n,i)∧∃a,Q a∧e∈eiA a
theorem Qd {Q:Ac→Prop} {m:eX} {d:Ei} (h:∀n i e,aO m (n,i)=some e→isC e.it=true∧gT e=(n,i)∧∃a,Q a∧e∈eiA a) (hd:isC d.it=true) (hq:∃a,Q a∧d∈eiA a):∀n i e,aO (sK m d) (n,i)=some e→isC e.it=true∧gT e=(n,i)∧∃a,Q a∧e∈eiA a:=by
 intro n i e he
 have hput:∀e,aO (cO m (gT d) d) (n,i)=some e→isC e.it=true∧gT e=(n,i)∧∃a,Q a∧e∈eiA a:=fun e he=>by
  rw[fq]at he
  split at he
  ·rename_i hr
   injection he with he
   rw[←he]
   exact⟨hd,hr,hq⟩
  ·exact h n i e he
 unfold sK at he
 split at he
 ·exact hput e he
 ·split at he
  ·exact hput e he
  ·exact h n i e he
theorem F9 {Q:Ac→Prop} {a:Ac} (hq:Q a):∀(l:List Ei) (m:eX),(∀e∈l,e∈eiA a)→(∀n i e,aO m (n,i)=some e→isC e.it=true∧gT e=(n,i)∧∃a,Q a∧e∈eiA a)→∀n i e,aO (l.foldl pJ m) (n,i)=some e→isC e.it=true∧gT e=(n,i)∧∃a,Q a∧e∈eiA a
 |[],m,_,h=>h
 |d::l,m,hl,h=>by
  rw[List.foldl_cons]
  refine F9 hq l _ (fun e he=>hl e (List.mem_cons_of_mem _ he)) ?_
  unfold pJ
  split
  ·rename_i hd
   exact Qd h hd ⟨a,hq,hl d List.mem_cons_self⟩
  ·exact h
theorem M0 {Q:Ac→Prop} {r:Rg} {a:Ac} (h:iO Q r) (hq:Q a):iO Q (iB r a):=by
 unfold iB
 cases hl:aO r.acts a.num with
 |some b=>exact⟨h.key,h.nodup,h.ok,h.cor⟩
 |none=>
  dsimp only
  rw[qW hl]
  refine⟨fun p hp=>?_,?_,fun p hp=>?_,F9 hq (eiA a) r.cors (fun e he=>he) h.cor⟩
  ·rcases List.mem_append.1 hp with hp|hp
   ·exact h.key p hp
   ·obtain rfl:=List.mem_singleton.1 hp;rfl
  ·rw[List.map_append,List.nodup_append]
   refine⟨h.nodup,by simp,?_⟩
   intro x hx y hy
   simp only[List.map_cons,List.map_nil,List.mem_singleton]at hy
   subst hy
   intro e
   rw[e]at hx
   exact (fM.1 hl) hx
  ·rcases List.mem_append.1 hp with hp|hp
   ·exact h.ok p hp
   ·obtain rfl:=List.mem_singleton.1 hp;exact hq
theorem FQ {Q:Ac→Prop}:iO Q ⟨[],[],[]⟩:=⟨fun _ h=>(by cases h),List.nodup_nil,fun _ h=>(by cases h),fun _ _ _ h=>(by cases h)⟩
theorem tC {Q:Ac→Prop}:∀(l:List Ac) (r:Rg),(∀a∈l,Q a)→iO Q r→iO Q (l.foldl iB r)
 |[],_,_,h=>h
 |a::l,_,hl,h=>tC l _ (fun b hb=>hl b (List.mem_cons_of_mem _ hb)) (M0 h (hl a List.mem_cons_self))
theorem D5 {Q:Ac→Prop}:∀(l:List Gz) (r:Rg),(∀g∈l,∀a∈g.acts,Q a)→iO Q r→iO Q (l.foldl xI r)
 |[],_,_,h=>h
 |g::l,r,hl,h=>D5 l _ (fun b hb=>hl b (List.mem_cons_of_mem _ hb)) (tC g.acts r (hl g List.mem_cons_self) h)
theorem lN {Q:Ac→Prop} {l:List Gz} (hl:∀g∈l,∀a∈g.acts,Q a):iO Q (lC l):=D5 l _ hl FQ
theorem Qm {x:It} (h:isC x=true):∃y q,x.bys=y::q:=by
 unfold isC at h
 cases hb:x.bys with
 |nil=>rw[hb]at h;simp at h
 |cons y r=>exact⟨y,r,rfl⟩
theorem iO.okc {Q:Ac→Prop} {r:Rg} (h:iO Q r):TF r.cors:=fun n i e he=>Qm (h.cor n i e he).1
def gG (m:eX) (l:AcM):List Ei:=l.flatMap fun p=>eiA (pR m p.2)
def fV (r:Rg):List Ei:=gG r.cors r.acts
theorem tH {κ ν:Type} {p q:κ×ν}:∀{l:List (κ×ν)},(l.map Prod.fst).Nodup→p∈l→q∈l→p.1=q.1→p=q
 |[],_,h,_,_=>by cases h
 |x::l,hn,hp,hq,e=>by
  rw[List.map_cons,List.nodup_cons]at hn
  rcases List.mem_cons.1 hp with h1|hp
  ·rcases List.mem_cons.1 hq with h2|hq
   ·rw[h1,h2]
   ·exact absurd (show x.1∈l.map Prod.fst by rw[←h1,e];exact List.mem_map_of_mem hq) hn.1
  ·rcases List.mem_cons.1 hq with h2|hq
   ·exact absurd (show x.1∈l.map Prod.fst by rw[←h2,←e];exact List.mem_map_of_mem hp) hn.1
   ·exact tH hn.2 hp hq e
theorem LD {m:eX}:∀{l:AcM},(∀p∈l,p.1=p.2.num)→(l.map Prod.fst).Nodup→∀x∈gG m l,∀y∈gG m l,xX x y→x=y:=by
 intro l hk hn x hx y hy hs
 unfold gG at hx hy
 obtain⟨p,hp,hx⟩:=List.mem_flatMap.1 hx
 obtain⟨q,hq,hy⟩:=List.mem_flatMap.1 hy
 have hx0:=hx
 have hy0:=hy
 obtain⟨k,u,h1,rfl⟩:=iC hx
 obtain⟨j,v,h2,rfl⟩:=iC hy
 obtain⟨s1,s2,s3⟩:=hs
 simp only[pR]at s2
 have hpq:p=q:=by
  have e:p.1=q.1:=by rw[hk p hp,hk q hq];exact s2
  exact tH hn hp hq e
 subst hpq
 exact Gl hx0 hy0 s3
theorem xL {Q:Ac→Prop} {r:Rg} (h:iO Q r):∀x∈fV r,∀y∈fV r,xX x y→x=y:=LD h.key h.nodup
end Go.Proofs.YtfjibfdelbodjaaGreat.Po
