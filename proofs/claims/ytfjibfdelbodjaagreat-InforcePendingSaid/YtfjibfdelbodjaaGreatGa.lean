/-
  Corpus: copies of instructions; the enacted items of an act. Corpus: acts, gazettes and enacted items as plain values; the enacted items of an act. Corpus: corrections by the program: whether an item is one, the last one of each reference. Corpus: the register of gazettes. Corpus: a new register, the register of gazettes. Corpus: the register of gazettes.
-/
import Derived.Test.YtfjibfdelbodjaaGreatWCa
import Derived.Test.YtfjibfdelbodjaaGreatP7
namespace Go.Proofs.YtfjibfdelbodjaaGreat.Po
open Go Go.Pv Go.RowKit
set_option linter.unusedSimpArgs false
open Lab Lcs Go.Proofs.YtfjibfdelbodjaaGreat Go.Proofs.YtfjibfdelbodjaaGreat.Pu
set_option maxRecDepth 10000
set_option maxHeartbeats 32000000
inductive CpI:It→Prop
 |mk (x:It) (hu:CpU x.unit) (h:x.p.length≤1000000000∧x.q.length≤1000000000∧x.old.length≤1000000000∧x.new.length≤1000000000∧x.bys.length≤1000000000) (hk:∀y∈x.bys,CpI y):CpI x
theorem DL (x:It) (hx0:CpI x):PC Tryz.prog aM 122 [itv x] [itv x]:=by
 induction hx0 with
 |mk x hu h hk ih=>
 obtain⟨h1,h2,h3,h4,h5⟩:=h
 have hS1:=(xw (X:=aM) (x.p.map spv) (by simpa using h1)).pc
 have hS2:=(xw (X:=aM) (x.q.map spv) (by simpa using h2)).pc
 have hT1:=(xu (X:=aM) (x.old.map IV.str) (by simpa using h3)).pc
 have hT2:=(xu (X:=aM) (x.new.map IV.str) (by simpa using h4)).pc
 have hI1:=yB (X:=aM) (x.bys.map itv) (by simpa using h5)
 have hU1:=DW x.unit hu
 rw[fO x.unit]at hU1
 have hml:(x.bys.map itv).length=x.bys.length:=List.length_map _
 have hml2:((x.bys.map itv).map PV.imm).length=x.bys.length:=by simp
 rw[aR x]
 refine PC.aj (T:=(tbf fun r=>match r with|9=>[7]|_=>[])) ay aH rfl mixed Tryz.func122 rfl rfl (Nat.le_of_ble_eq_true rfl) ?_;intro Γ C WK LP fin h0 hW hC hB hR hLP hfin
 (try (conv=>whnf));(repeat ((first|refine qT ?_|refine qF ?_|refine qO ?_|(with_reducible intro z hz);(first|(replace hz:=hz (by omega);subst hz)|subst hz)|(refine ah.mk _ (hC _ _ _ (PCw.of hS1)) (fun js hjs=>?_);subst hjs)|(refine ah.mk _ (hC _ _ _ (PCw.of hS2)) (fun js hjs=>?_);subst hjs)|(refine ah.mk _ (hC _ _ _ (PCw.of hT1)) (fun js hjs=>?_);subst hjs)|(refine ah.mk _ (hC _ _ _ (PCw.of hT2)) (fun js hjs=>?_);subst hjs)|(refine ah.mk _ (hC _ _ _ (PCw.of hU1)) (fun js hjs=>?_);subst hjs));(try (conv=>whnf))))
 refine ah.row _ _ _ (hR _ _ _ _ _ (uM.of (hI1))) (fun js hjs=>?_);subst hjs
 (try (conv=>whnf));(repeat ((first|refine qT ?_|refine qF ?_|refine qO ?_|(with_reducible intro z hz);(first|(replace hz:=hz (by omega);subst hz)|subst hz));(try (conv=>whnf))))
 refine hLP _ _ _ Nat (fun k=>⟨[(1,.ptr 0 1 0),(2,.ptr 1 1 0),(30,.imm (.int .i64 (x.bys.length:Nat))),(31,.imm (.int .i64 (k:Nat)))],[.box 1 [.imm (.int .i64 x.kind),.imm (.sl 2 (x.p.map spv)),.imm (.sl 2 (x.q.map spv)),.imm (.int .i64 x.z),.imm (.int .i64 x.nth),.imm (.int .i64 x.unit.id.x),.imm (.int .i64 x.unit.id.y),.imm (.int .i64 x.unit.id.z),.imm (.int .i64 x.unit.kind),.imm (.str x.unit.label),.imm (.sl 4 (x.unit.head.map wdv)),.imm (.sl 4 (x.unit.words.map wdv)),.imm (.sl 8 (x.unit.kids.map uv)),.imm (.sl 1 (x.old.map IV.str)),.imm (.sl 1 (x.new.map IV.str)),.imm (.str x.lb),.imm (.str x.fr),.imm (.int .i64 x.sk),.imm (.int .i64 x.sd),.imm (.str x.se),.imm (.int .i64 x.a),.imm (.int .i64 x.i),.imm (.int .i64 x.d),.imm (.str x.ev),.row 7 1],.box 1 [.imm (.int .i64 0),.imm .nil,.imm .nil,.imm (.int .i64 0),.imm (.int .i64 0),.imm (.int .i64 0),.imm (.int .i64 0),.imm (.int .i64 0),.imm (.int .i64 0),.imm (.str ⟨#[]⟩),.imm .nil,.imm .nil,.imm .nil,.imm .nil,.imm .nil,.imm (.str ⟨#[]⟩),.imm (.str ⟨#[]⟩),.imm (.int .i64 0),.imm (.int .i64 0),.imm (.str ⟨#[]⟩),.imm (.int .i64 0),.imm (.int .i64 0),.imm (.int .i64 0),.imm (.str ⟨#[]⟩),.imm .nil],.dead 0,.dead 0,.dead 0,.dead 0,.dead 0,.row 45 25 1 ((x.bys.map itv).map .imm)]⟩) (fun k=>k≤x.bys.length) (fun k=>x.bys.length - k) 0 (Nat.zero_le _) (qSL 8 rfl rfl (hE:=by (repeat ((conv=>whnf);first|exact trivial|refine And.intro (by first|exact av.any|exact av.eq (by with_reducible rfl) rfl|exact av.eq (congrArg (fun z=>PV.imm (IV.int IntKind.i64 z)) (by first|omega|(simp[hml];done)|(simp[hml];omega))) rfl|exact av.eq (by first|(simp[hml];done)|fail) rfl|exact av.eq rfl rfl|exact av.le rfl (ILe.nil _)) ?_)))) ?_
 intro k hk2
 have hho:=Nat.lt_or_ge k x.bys.length
 cases hho with
 |inl hlt=>
  obtain⟨y,hy⟩:∃y,x.bys[k]?=some y:=⟨x.bys[k],List.getElem?_eq_getElem hlt⟩
  have hC2:=ih y (List.mem_of_getElem? hy)
  have hrx:((x.bys.map itv).map PV.imm)[k]?=some (.imm (itv y)):=by simp[hy]
  have hset:=set_self hrx
  rw[aR y]at hrx hC2 hset
  (try (conv=>whnf));(repeat ((first|refine qT ?_|refine qF ?_|refine qO ?_|(with_reducible intro z hz);(first|(replace hz:=hz (by omega);subst hz)|subst hz));(try (conv=>whnf))))
  refine Pos.mk k rfl (by omega) ?_
  (try (conv=>whnf));(repeat ((first|refine qT ?_|refine qF ?_|refine qO ?_|(with_reducible intro z hz);(first|(replace hz:=hz (by omega);subst hz)|subst hz));(try (conv=>whnf))))
  refine At.mk _ hrx ?_
  (try (conv=>whnf));(repeat ((first|refine qT ?_|refine qF ?_|refine qO ?_|(with_reducible intro z hz);(first|(replace hz:=hz (by omega);subst hz)|subst hz)|(refine ah.mk _ (hC _ _ _ (PCw.of hC2)) (fun js hjs=>?_);subst hjs));(try (conv=>whnf))))
  refine Pos.mk k rfl (by omega) ?_
  (try (conv=>whnf));(repeat ((first|refine qT ?_|refine qF ?_|refine qO ?_|(with_reducible intro z hz);(first|(replace hz:=hz (by omega);subst hz)|subst hz));(try (conv=>whnf))))
  refine At.mk _ hrx ?_
  (try (conv=>whnf));(repeat ((first|refine qT ?_|refine qF ?_|refine qO ?_|(with_reducible intro z hz);(first|(replace hz:=hz (by omega);subst hz)|subst hz));(try (conv=>whnf))))
  exact⟨k+1,by omega,by dsimp only;omega,((aC.row 7 (((x.bys.map itv).map .imm)) rfl (by exact hset)).trans (qSL 8 rfl rfl))⟩
 |inr hge=>
  obtain rfl:k=x.bys.length:=by omega
  (try (conv=>whnf));(repeat ((first|refine qT ?_|refine qF ?_|refine qO ?_|(with_reducible intro z hz);(first|(replace hz:=hz (by omega);subst hz)|subst hz));(try (conv=>whnf))))
  refine bN.mk (x.bys.map itv) rfl ?_
  (try (conv=>whnf));(repeat ((first|refine qT ?_|refine qF ?_|refine qO ?_|(with_reducible intro z hz);(first|(replace hz:=hz (by omega);subst hz)|subst hz));(try (conv=>whnf))))
  exact hfin _ (aA.refl _)
end Go.Proofs.YtfjibfdelbodjaaGreat.Po
namespace Go.Proofs.YtfjibfdelbodjaaGreat.Po
open Go Go.Pv Go.RowKit
set_option linter.unusedSimpArgs false
open Lab Lcs Go.Proofs.YtfjibfdelbodjaaGreat Go.Proofs.YtfjibfdelbodjaaGreat.Pu
set_option maxRecDepth 10000
set_option maxHeartbeats 32000000
structure Ac where
 num:Int
 title:Str
 day:Int
 sk:Int
 sd:Int
 se:Str
 items:List It
def acv (a:Ac):IV:=.agg [.int .i64 a.num,.str a.title,.int .i64 a.day,.int .i64 a.sk,.int .i64 a.sd,.str a.se,.sl 25 (a.items.map itv)]
structure Ei where
 act:Int
 item:Int
 day:Int
 it:It
def eiv (e:Ei):IV:=.agg [.int .i64 e.act,.int .i64 e.item,.int .i64 e.day,.int .i64 e.it.kind,.sl 2 (e.it.p.map spv),.sl 2 (e.it.q.map spv),.int .i64 e.it.z,.int .i64 e.it.nth,.int .i64 e.it.unit.id.x,.int .i64 e.it.unit.id.y,.int .i64 e.it.unit.id.z,.int .i64 e.it.unit.kind,.str e.it.unit.label,.sl 4 (e.it.unit.head.map wdv),.sl 4 (e.it.unit.words.map wdv),.sl 8 (e.it.unit.kids.map uv),.sl 1 (e.it.old.map IV.str),.sl 1 (e.it.new.map IV.str),.str e.it.lb,.str e.it.fr,.int .i64 e.it.sk,.int .i64 e.it.sd,.str e.it.se,.int .i64 e.it.a,.int .i64 e.it.i,.int .i64 e.it.d,.str e.it.ev,.sl 25 (e.it.bys.map itv)]
def eH (n d:Int):Nat→List It→List Ei
 |_,[]=>[]
 |i,x::r=>⟨n,(i:Nat),d,x⟩::eH n d (i+1) r
theorem wR (n d:Int):∀(a b:List It) (i:Nat),eH n d i (a++b)=eH n d i a++eH n d (i+a.length) b
 |[],b,i=>by simp[eH]
 |x::a,b,i=>by
  simp only[List.cons_append,eH,List.length_cons]
  rw[wR n d a b (i+1),show i+1+a.length=i+(a.length+1) by omega]
theorem tK {n d:Int} {l:List It} {k:Nat} {x:It} (hx:l[k]?=some x):eH n d 0 (l.take (k+1))=eH n d 0 (l.take k)++[⟨n,(k:Nat),d,x⟩]:=by
 have hk:(l.take k).length=k:=by
  have:=(List.getElem?_eq_some_iff.1 hx).1
  rw[List.length_take];omega
 rw[take_at hx,wR,hk,Nat.zero_add]
 rfl
theorem nI (n d:Int):∀(l:List It) (i:Nat),(eH n d i l).length=l.length
 |[],_=>rfl
 |x::l,i=>by simp[eH,nI n d l (i+1)]
def eiA (a:Ac):List Ei:=eH a.num a.day 0 a.items
theorem Dx (a:Ac) (hl:a.items.length≤1000000) (hc:∀x∈a.items,CpI x):PC Tryz.prog aM 77 [acv a] [.sl 28 ((eiA a).map eiv)]:=by
 have hml:(a.items.map itv).length=a.items.length:=List.length_map _
 unfold acv eiA
 refine PC.aj (T:=tb0) ay aH rfl mixed Tryz.func77 rfl rfl (Nat.le_of_ble_eq_true rfl) ?_;intro Γ C WK LP fin h0 hW hC hB hR hLP hfin
 (try (conv=>whnf));(repeat ((first|refine qT ?_|refine qF ?_|refine qO ?_|(with_reducible intro z hz);(first|(replace hz:=hz (by omega);subst hz)|subst hz));(try (conv=>whnf))))
 refine hLP _ _ _ Nat (fun k=>⟨[(1,.ptr 0 1 0),(3,.row 1 1),(7,.imm (.sl 25 (a.items.map itv))),(8,.imm (.int .i64 (a.items.length:Nat))),(9,.imm (.int .i64 (k:Nat)))],[.box 1 [.imm (.int .i64 a.num),.imm (.str a.title),.imm (.int .i64 a.day),.imm (.int .i64 a.sk),.imm (.int .i64 a.sd),.imm (.str a.se),.imm (.sl 25 (a.items.map itv))],.row 47 28 1 (((eH a.num a.day 0 (a.items.take k)).map eiv).map .imm)]⟩) (fun k=>k≤a.items.length) (fun k=>a.items.length - k) 0 (Nat.zero_le _) ((aC.lZ 3 47 28 (Nat.le_of_ble_eq_true rfl) rfl).trans ((aC.row 1 (((eH a.num a.day 0 (a.items.take 0)).map eiv).map .imm) rfl (by simp[eH])).trans (qSL 2 rfl rfl (hE:=by (repeat ((conv=>whnf);first|exact trivial|refine And.intro (by first|exact av.any|exact av.eq (by with_reducible rfl) rfl|exact av.eq (congrArg (fun z=>PV.imm (IV.int IntKind.i64 z)) (by first|omega|(simp[hml];done)|(simp[hml];omega))) rfl|exact av.eq (by first|(simp[hml];done)|fail) rfl|exact av.eq rfl rfl|exact av.le rfl (ILe.nil _)) ?_)))))) ?_
 intro k hk
 have hho:=Nat.lt_or_ge k a.items.length
 cases hho with
 |inl hlt=>
  obtain⟨x,hx⟩:∃x,a.items[k]?=some x:=⟨a.items[k],List.getElem?_eq_getElem hlt⟩
  have hC2:=DL x (hc x (List.mem_of_getElem? hx))
  have hst:=tK (n:=a.num) (d:=a.day) hx
  have hrl:(((eH a.num a.day 0 (a.items.take k)).map eiv).map PV.imm).length≤k:=by
   rw[List.length_map,List.length_map,nI,List.length_take];omega
  rw[aR x]at hC2
  generalize eH a.num a.day 0 (a.items.take k)=R at *
  (try (conv=>whnf));(repeat ((first|refine qT ?_|refine qF ?_|refine qO ?_|(with_reducible intro z hz);(first|(replace hz:=hz (by omega);subst hz)|subst hz));(try (conv=>whnf))))
  refine Idx.mk k (itv x) _ rfl (by simp[hx]) (by rw[aR x]) ?_
  (try (conv=>whnf));(repeat ((first|refine qT ?_|refine qF ?_|refine qO ?_|(with_reducible intro z hz);(first|(replace hz:=hz (by omega);subst hz)|subst hz)|(refine ah.mk _ (hC _ _ _ (PCw.of hC2)) (fun js hjs=>?_);subst hjs));(try (conv=>whnf))))
  refine Owe.mk (by first|(show _+1≤most;unfold most;omega)|(refine Or.inl ?_;show _+1≤most;unfold most;omega)) ?_
  (try (conv=>whnf));(repeat ((first|refine qT ?_|refine qF ?_|refine qO ?_|(with_reducible intro z hz);(first|(replace hz:=hz (by omega);subst hz)|subst hz));(try (conv=>whnf))))
  refine⟨k+1,by omega,by dsimp only;omega,?_⟩
  dsimp only[]
  rw[hst]
  exact ((aC.row 1 (((R++[(⟨a.num,(k:Nat),a.day,x⟩:Ei)]).map eiv).map .imm) rfl (by simp[eiv]))).trans ((aC.renew 1 1 rfl (by first|omega|(intro _;rw[hk0 _ _ rfl];exact Nat.le_of_ble_eq_true rfl)) (by repeat (first|exact trivial|refine And.intro (bA _ _ _ _) ?_|refine And.intro rfl ?_))).trans (qSL 2 rfl rfl))
 |inr hge=>
  obtain rfl:k=a.items.length:=by omega
  rw[List.take_length]
  (try (conv=>whnf));(repeat ((first|refine qT ?_|refine qF ?_|refine qO ?_|(with_reducible intro z hz);(first|(replace hz:=hz (by omega);subst hz)|subst hz));(try (conv=>whnf))))
  refine bN.mk ((eH a.num a.day 0 a.items).map eiv) rfl ?_
  exact hfin _ (aA.refl _)
end Go.Proofs.YtfjibfdelbodjaaGreat.Po
namespace Go.Proofs.YtfjibfdelbodjaaGreat.Po
open Go Go.Pv Go.RowKit
set_option linter.unusedSimpArgs false
open Lab Lcs Go.Proofs.YtfjibfdelbodjaaGreat Go.Proofs.YtfjibfdelbodjaaGreat.Pu
set_option maxRecDepth 10000
set_option maxHeartbeats 32000000
def imI (x:It):Im:=⟨x.kind,fun n=>([.nil,.sl 2 (x.p.map spv),.sl 2 (x.q.map spv),.int .i64 x.z,.int .i64 x.nth,.int .i64 x.unit.id.x,.int .i64 x.unit.id.y,.int .i64 x.unit.id.z,.int .i64 x.unit.kind,.str x.unit.label,.sl 4 (x.unit.head.map wdv),.sl 4 (x.unit.words.map wdv),.sl 8 (x.unit.kids.map uv),.sl 1 (x.old.map IV.str),.sl 1 (x.new.map IV.str),.str x.lb,.str x.fr]:List IV).getD n .nil,⟨x.sk,x.sd,x.se⟩,x.a,x.i,x.d,x.ev,.sl 25 (x.bys.map itv)⟩
def enI (e:Ei):En:=⟨e.act,e.item,e.day,imI e.it⟩
def fD (a b:Ei):Int:=if fV a.day b.day≠0 then fV a.day b.day else if fV a.act b.act≠0 then fV a.act b.act else fV a.item b.item
theorem uy (a b:Ei):PC Tryz.prog aM 80 [eiv a,eiv b] [.int .i64 (fD a b)]:=vL (enI a) (enI b)
theorem fq (e:Ei):eiv e=.agg [.int .i64 e.act,.int .i64 e.item,.int .i64 e.day,.int .i64 e.it.kind,.sl 2 (e.it.p.map spv),.sl 2 (e.it.q.map spv),.int .i64 e.it.z,.int .i64 e.it.nth,.int .i64 e.it.unit.id.x,.int .i64 e.it.unit.id.y,.int .i64 e.it.unit.id.z,.int .i64 e.it.unit.kind,.str e.it.unit.label,.sl 4 (e.it.unit.head.map wdv),.sl 4 (e.it.unit.words.map wdv),.sl 8 (e.it.unit.kids.map uv),.sl 1 (e.it.old.map IV.str),.sl 1 (e.it.new.map IV.str),.str e.it.lb,.str e.it.fr,.int .i64 e.it.sk,.int .i64 e.it.sd,.str e.it.se,.int .i64 e.it.a,.int .i64 e.it.i,.int .i64 e.it.d,.str e.it.ev,.sl 25 (e.it.bys.map itv)]:=rfl
def chB (k:Int):Bool:=decide (0≤k∧k≤6)
theorem uW (k:Int):PC Tryz.prog aM 61 [.int .i64 k] [.bool (chB k)]:=by
 unfold chB
 by_cases h1:0≤k
 ·by_cases h2:k≤6
  ·rw[decide_eq_true ⟨h1,h2⟩]
   refine PC.aj (T:=tb0) ay aH rfl mixed Tryz.func61 rfl rfl (Nat.le_of_ble_eq_true rfl) ?_;intro Γ C WK LP fin h0 hW hC hB hR hLP hfin
   (try (conv=>whnf));(repeat ((first|refine qT ?_|refine qF ?_|refine qO ?_|(with_reducible intro z hz);(first|(replace hz:=hz (by omega);subst hz)|subst hz));(try (conv=>whnf))))
   exact hfin _ (aA.refl _)
  ·rw[decide_eq_false (fun h=>h2 h.2)]
   refine PC.aj (T:=tb0) ay aH rfl mixed Tryz.func61 rfl rfl (Nat.le_of_ble_eq_true rfl) ?_;intro Γ C WK LP fin h0 hW hC hB hR hLP hfin
   (try (conv=>whnf));(repeat ((first|refine qT ?_|refine qF ?_|refine qO ?_|(with_reducible intro z hz);(first|(replace hz:=hz (by omega);subst hz)|subst hz));(try (conv=>whnf))))
   exact hfin _ (aA.refl _)
 ·rw[decide_eq_false (fun h=>h1 h.1)]
  refine PC.aj (T:=tb0) ay aH rfl mixed Tryz.func61 rfl rfl (Nat.le_of_ble_eq_true rfl) ?_;intro Γ C WK LP fin h0 hW hC hB hR hLP hfin
  (try (conv=>whnf));(repeat ((first|refine qT ?_|refine qF ?_|refine qO ?_|(with_reducible intro z hz);(first|(replace hz:=hz (by omega);subst hz)|subst hz));(try (conv=>whnf))))
  exact hfin _ (aA.refl _)
def isC (x:It):Bool:=decide (x.kind=11)&&(match x.bys with
 |[]=>false
 |y::_=>chB y.kind)
theorem RS (x:It):PC Tryz.prog aM 148 [itv x] [.bool (isC x)]:=by
 have hml:(x.bys.map itv).length=x.bys.length:=List.length_map _
 rw[aR x]
 by_cases h1:x.kind=11
 ·cases hb:x.bys with
  |nil=>
   have hi:isC x=false:=by unfold isC;rw[hb];simp
   rw[hi]
   rw[hb]at hml
   refine PC.aj (T:=tb0) ay aH rfl mixed Tryz.func148 rfl rfl (Nat.le_of_ble_eq_true rfl) ?_;intro Γ C WK LP fin h0 hW hC hB hR hLP hfin
   (try (conv=>whnf));(repeat ((first|refine qT ?_|refine qF ?_|refine qO ?_|(with_reducible intro z hz);(first|(replace hz:=hz (by omega);subst hz)|subst hz));(try (conv=>whnf))))
   exact hfin _ (aA.refl _)
  |cons y r=>
   have hi:isC x=chB y.kind:=by unfold isC;rw[hb,decide_eq_true h1];simp
   rw[hi]
   have hA:=uW y.kind
   rw[hb]at hml
   have hl0:0 < (((y::r).map itv).length:Int):=by simp
   refine PC.aj (T:=tb0) ay aH rfl mixed Tryz.func148 rfl rfl (Nat.le_of_ble_eq_true rfl) ?_;intro Γ C WK LP fin h0 hW hC hB hR hLP hfin
   (try (conv=>whnf));(repeat ((first|refine qT ?_|refine qF ?_|refine qO ?_|(with_reducible intro z hz);(first|(replace hz:=hz (by omega);subst hz)|subst hz));(try (conv=>whnf))))
   refine Idx.mk 0 (itv y) _ rfl rfl (by rw[aR y]) ?_
   (try (conv=>whnf));(repeat ((first|refine qT ?_|refine qF ?_|refine qO ?_|(with_reducible intro z hz);(first|(replace hz:=hz (by omega);subst hz)|subst hz)|(refine ah.mk _ (hC _ _ _ (PCw.of hA)) (fun js hjs=>?_);subst hjs));(try (conv=>whnf))))
   exact hfin _ (aA.refl _)
 ·have hi:isC x=false:=by unfold isC;rw[decide_eq_false h1];rfl
  rw[hi]
  refine PC.aj (T:=tb0) ay aH rfl mixed Tryz.func148 rfl rfl (Nat.le_of_ble_eq_true rfl) ?_;intro Γ C WK LP fin h0 hW hC hB hR hLP hfin
  (try (conv=>whnf));(repeat ((first|refine qT ?_|refine qF ?_|refine qO ?_|(with_reducible intro z hz);(first|(replace hz:=hz (by omega);subst hz)|subst hz));(try (conv=>whnf))))
  exact hfin _ (aA.refl _)
abbrev kkC:MK:=.cells 67 [.int .i64,.int .i64]
abbrev eT:=List ((Int×Int)×Ei)
def gK (d:Ei):Int×Int:=(d.it.a,d.it.i)
def rZ (m:eT) (d:Ei):eT:=match aP m (gK d) with
 |none=>cB m (gK d) d
 |some e=>if 0 < fD d e then cB m (gK d) d else m
abbrev CQ (pa pr:List (IV×IV)) (m:eT):List Blk:=[.map (.int .i64) 1 pa,.map (.int .i64) 1 pr,.map kkC 1 (mkL kv2 eiv m)]
theorem F5 (m:eT) (a i:Int):fB (mkL kv2 eiv m) (.agg [.int .i64 a,.int .i64 i])=(aP m (a,i)).map eiv:=mX I7 (a,i) m
def z0:Str:=⟨#[]⟩
def SH:IV:=.agg [.int .i64 0,.int .i64 0,.int .i64 0,.int .i64 0,.nil,.nil,.int .i64 0,.int .i64 0,.int .i64 0,.int .i64 0,.int .i64 0,.int .i64 0,.str ⟨#[]⟩,.nil,.nil,.nil,.nil,.nil,.str ⟨#[]⟩,.str ⟨#[]⟩,.int .i64 0,.int .i64 0,.str ⟨#[]⟩,.int .i64 0,.int .i64 0,.int .i64 0,.str ⟨#[]⟩,.nil]
theorem Oy (pa pr:List (IV×IV)) (m:eT) (d:Ei):PCB Tryz.prog aM 149 [.agg [.row 0 1,.row 1 1,.row 2 1],.imm (eiv d)] (CQ pa pr m) [] (CQ pa pr (rZ m d)):=by
 have hk:=F5 m d.it.a d.it.i
 have hput:dS (mkL kv2 eiv m) (.agg [.int .i64 d.it.a,.int .i64 d.it.i]) (eiv d)=mkL kv2 eiv (cB m (gK d) d):=lN (vv:=eiv) I7 (d.it.a,d.it.i) d m
 rw[show (d.it.a,d.it.i)=gK d from rfl]at hk
 cases hl:aP m (gK d) with
 |none=>
  have ha:rZ m d=cB m (gK d) d:=by unfold rZ;rw[hl]
  rw[ha]
  rw[hl]at hk
  rw[fq d]at hput ⊢
  refine PCB.aj (T:=tb0) ay aH rfl mixed Tryz.func149 rfl rfl rfl (Nat.le_of_ble_eq_true rfl) rfl ?_;intro Γ C WK LP fin h0 hk0 hW hC hB hR hLP hfin
  have h03:Γ.n0=3:=h0
  (try (conv=>whnf));(repeat ((first|refine qT ?_|refine qF ?_|refine qO ?_|(with_reducible intro z hz);(first|(replace hz:=hz (by omega);subst hz)|subst hz));(try (conv=>whnf))))
  refine gD.mk SH false (by rw[hk];rfl) (by rw[hk];rfl) ?_
  (try (conv=>whnf));(repeat ((first|refine qT ?_|refine qF ?_|refine qO ?_|(with_reducible intro z hz);(first|(replace hz:=hz (by omega);subst hz)|subst hz));(try (conv=>whnf))))
  exact hfin _ ((aC.qD 2 ((mkL kv2 eiv (cB m (gK d) d))) rfl (by exact hput)).trans (qSL 3 rfl rfl))
 |some e=>
  have hCm:=uy d e
  rw[hl]at hk
  by_cases hg:0 < fD d e
  ·have ha:rZ m d=cB m (gK d) d:=by unfold rZ;rw[hl];exact if_pos hg
   rw[ha]
   generalize fD d e=z at *
   rw[fq d,fq e]at hCm
   rw[fq d]at hput ⊢
   refine PCB.aj (T:=tb0) ay aH rfl mixed Tryz.func149 rfl rfl rfl (Nat.le_of_ble_eq_true rfl) rfl ?_;intro Γ C WK LP fin h0 hk0 hW hC hB hR hLP hfin
   have h03:Γ.n0=3:=h0
   (try (conv=>whnf));(repeat ((first|refine qT ?_|refine qF ?_|refine qO ?_|(with_reducible intro z hz);(first|(replace hz:=hz (by omega);subst hz)|subst hz));(try (conv=>whnf))))
   refine gD.mk (eiv e) true (by rw[hk];rfl) (by rw[hk];rfl) ?_
   rw[fq e]
   (try (conv=>whnf));(repeat ((first|refine qT ?_|refine qF ?_|refine qO ?_|(with_reducible intro z hz);(first|(replace hz:=hz (by omega);subst hz)|subst hz)|(refine ah.mk _ (hC _ _ _ (PCw.of hCm)) (fun js hjs=>?_);subst hjs));(try (conv=>whnf))))
   exact hfin _ ((aC.qD 2 ((mkL kv2 eiv (cB m (gK d) d))) rfl (by exact hput)).trans (qSL 3 rfl rfl))
  ·have ha:rZ m d=m:=by unfold rZ;rw[hl];exact if_neg hg
   rw[ha]
   generalize fD d e=z at *
   rw[fq d,fq e]at hCm
   rw[fq d]
   refine PCB.aj (T:=tb0) ay aH rfl mixed Tryz.func149 rfl rfl rfl (Nat.le_of_ble_eq_true rfl) rfl ?_;intro Γ C WK LP fin h0 hk0 hW hC hB hR hLP hfin
   have h03:Γ.n0=3:=h0
   (try (conv=>whnf));(repeat ((first|refine qT ?_|refine qF ?_|refine qO ?_|(with_reducible intro z hz);(first|(replace hz:=hz (by omega);subst hz)|subst hz));(try (conv=>whnf))))
   refine gD.mk (eiv e) true (by rw[hk];rfl) (by rw[hk];rfl) ?_
   rw[fq e]
   (try (conv=>whnf));(repeat ((first|refine qT ?_|refine qF ?_|refine qO ?_|(with_reducible intro z hz);(first|(replace hz:=hz (by omega);subst hz)|subst hz)|(refine ah.mk _ (hC _ _ _ (PCw.of hCm)) (fun js hjs=>?_);subst hjs));(try (conv=>whnf))))
   exact hfin _ (qSL 3 rfl rfl)
end Go.Proofs.YtfjibfdelbodjaaGreat.Po
namespace Go.Proofs.YtfjibfdelbodjaaGreat.Po
open Go Go.Pv Go.RowKit
set_option linter.unusedSimpArgs false
open Lab Lcs Go.Proofs.YtfjibfdelbodjaaGreat Go.Proofs.YtfjibfdelbodjaaGreat.Pu
set_option maxRecDepth 10000
set_option maxHeartbeats 32000000
structure Gz where
 num:Int
 day:Int
 prior:Str
 acts:List Ac
def gzv (g:Gz):IV:=.agg [.int .i64 g.num,.int .i64 g.day,.str g.prior,.sl 7 (g.acts.map acv)]
abbrev AcM:=List (Int×Ac)
structure Rg where
 acts:AcM
 jf:List (Int×Bool)
 cors:eT
def kI (n:Int):IV:=.int .i64 n
theorem nu (a b:Int):eqI (kI a) (kI b)=decide (a=b):=rfl
def pz (m:eT) (d:Ei):eT:=if isC d.it=true then rZ m d else m
def gU (r:Rg) (a:Ac):Rg:=match aP r.acts a.num with
 |some _=>⟨r.acts,cB r.jf a.num true,r.cors⟩
 |none=>⟨cB r.acts a.num a,r.jf,(eiA a).foldl pz r.cors⟩
def vS (r:Rg) (g:Gz):Rg:=g.acts.foldl gU r
def lG (l:List Gz):Rg:=l.foldl vS ⟨[],[],[]⟩
abbrev rgB (r:Rg):List Blk:=[.map (.int .i64) 1 (mkL kI acv r.acts),.map (.int .i64) 1 (mkL kI IV.bool r.jf),.map kkC 1 (mkL kv2 eiv r.cors)]
abbrev rgC (r:Rg):List CBk:=[.map (.int .i64) 1 (mkL kI acv r.acts),.map (.int .i64) 1 (mkL kI IV.bool r.jf),.map kkC 1 (mkL kv2 eiv r.cors)]
theorem Af {l:List Ac} {k:Nat} {x:Ac} (hx:l[k]?=some x) (r:Rg):(l.take (k+1)).foldl gU r=gU ((l.take k).foldl gU r) x:=by
 rw[take_at hx,List.foldl_append,List.foldl_cons,List.foldl_nil]
theorem Kj {n d:Int} {l:List It} {k:Nat} {x:It} (hx:l[k]?=some x) (m:eT):(eH n d 0 (l.take (k+1))).foldl pz m=pz ((eH n d 0 (l.take k)).foldl pz m) ⟨n,(k:Nat),d,x⟩:=by
 rw[tK hx,List.foldl_append,List.foldl_cons,List.foldl_nil]
theorem Pb (m:AcM) (n:Int):fB (mkL kI acv m) (.int .i64 n)=(aP m n).map acv:=mX nu n m
def TH:IV:=.agg [.int .i64 0,.str ⟨#[]⟩,.int .i64 0,.int .i64 0,.int .i64 0,.str ⟨#[]⟩,.nil]
def SmA (a:Ac):Prop:=a.items.length≤1000000
abbrev bxG (g:Gz):Blk:=.box 1 [.imm (.int .i64 g.num),.imm (.int .i64 g.day),.imm (.str g.prior),.imm (.sl 7 (g.acts.map acv))]
abbrev bxR:Blk:=.box 1 [.row 0 1,.row 1 1,.row 2 1]
abbrev bxA (a:Ac):Blk:=.box 1 [.imm (.int .i64 a.num),.imm (.str a.title),.imm (.int .i64 a.day),.imm (.int .i64 a.sk),.imm (.int .i64 a.sd),.imm (.str a.se),.imm (.sl 25 (a.items.map itv))]
abbrev bxZ:Blk:=.box 1 [.imm (.int .i64 0),.imm (.str ⟨#[]⟩),.imm (.int .i64 0),.imm (.int .i64 0),.imm (.int .i64 0),.imm (.str ⟨#[]⟩),.imm .nil]
theorem PW (r:Rg) (g:Gz) (hl:g.acts.length≤1000000) (hA:∀a∈g.acts,SmA a):PCB Tryz.prog aM 121 [.agg [.row 0 1,.row 1 1,.row 2 1],.imm (gzv g)] (rgB r) [] (rgB (vS r g)):=by
 have hml:(g.acts.map acv).length=g.acts.length:=List.length_map _
 unfold gzv vS
 refine PCB.aj (T:=tb0) ay aH rfl mixed Tryz.func121 rfl rfl rfl (Nat.le_of_ble_eq_true rfl) rfl ?_;intro Γ C WK LP fin h0 hk0 hW hC hB hR hLP hfin
 have h03:Γ.n0=3:=h0
 (try (conv=>whnf));(repeat ((first|refine qT ?_|refine qF ?_|refine qO ?_|(with_reducible intro z hz);(first|(replace hz:=hz (by omega);subst hz)|subst hz));(try (conv=>whnf))))
 refine hLP _ _ _ Nat (fun k=>⟨[(2,.ptr 3 1 0),(11,.imm (.sl 7 (g.acts.map acv))),(12,.imm (.int .i64 (g.acts.length:Nat))),(13,.imm (.int .i64 (k:Nat)))],rgB ((g.acts.take k).foldl gU r)++[bxR,bxG g]⟩) (fun k=>k≤g.acts.length) (fun k=>g.acts.length - k) 0 (Nat.zero_le _) ((qSL 5 rfl rfl (hE:=by (repeat ((conv=>whnf);first|exact trivial|refine And.intro (by first|exact av.any|exact av.eq (by with_reducible rfl) rfl|exact av.eq (congrArg (fun z=>PV.imm (IV.int IntKind.i64 z)) (by first|omega|(simp[hml];done)|(simp[hml];omega))) rfl|exact av.eq (by first|(simp[hml];done)|fail) rfl|exact av.eq rfl rfl|exact av.le rfl (ILe.nil _)) ?_))))) ?_
 intro k hk
 have hho:=Nat.lt_or_ge k g.acts.length
 cases hho with
 |inl hlt=>
  refine (?_:∀Q:Exit→AS→Prop,vcS _ _ _ _ _ _ _ (dV _ _ _ _ _ _ Q)) _;intro Q
  obtain⟨a,ha⟩:∃a,g.acts[k]?=some a:=⟨g.acts[k],List.getElem?_eq_getElem hlt⟩
  have hst:=Af ha r
  have hsm:=hA a (List.mem_of_getElem? ha)
  unfold SmA at hsm
  generalize (g.acts.take k).foldl gU r=R at *
  have hlk:=Pb R.acts a.num
  have hpr:dS (mkL kI IV.bool R.jf) (.int .i64 a.num) (.bool true)=mkL kI IV.bool (cB R.jf a.num true):=lN (vv:=IV.bool) nu a.num true R.jf
  have hpa:dS (mkL kI acv R.acts) (.int .i64 a.num) (acv a)=mkL kI acv (cB R.acts a.num a):=lN (vv:=acv) nu a.num a R.acts
  cases hf:aP R.acts a.num with
  |some b=>
   rw[hf]at hlk
   have hadd:gU R a=⟨R.acts,cB R.jf a.num true,R.cors⟩:=by unfold gU;rw[hf]
   rw[hadd]at hst
   (try (conv=>whnf));(repeat ((first|refine qT ?_|refine qF ?_|refine qO ?_|(with_reducible intro z hz);(first|(replace hz:=hz (by omega);subst hz)|subst hz));(try (conv=>whnf))))
   refine Idx.mk k (acv a) _ rfl (by simp[ha]) rfl ?_
   (try (conv=>whnf));(repeat ((first|refine qT ?_|refine qF ?_|refine qO ?_|(with_reducible intro z hz);(first|(replace hz:=hz (by omega);subst hz)|subst hz));(try (conv=>whnf))))
   refine gD.mk (acv b) true (by rw[hlk];rfl) (by rw[hlk];rfl) ?_
   (try (conv=>whnf));(repeat ((first|refine qT ?_|refine qF ?_|refine qO ?_|(with_reducible intro z hz);(first|(replace hz:=hz (by omega);subst hz)|subst hz));(try (conv=>whnf))))
   exact⟨k+1,by omega,by dsimp only;omega,by
    dsimp only[]
    rw[hst]
    exact (aC.qD 1 ((mkL kI IV.bool (cB R.jf a.num true))) rfl (by exact hpr)).trans (qSL 5 rfl rfl)⟩
  |none=>
   rw[hf]at hlk
   have hadd:gU R a=⟨cB R.acts a.num a,R.jf,(eiA a).foldl pz R.cors⟩:=by unfold gU;rw[hf]
   rw[hadd]at hst
   have hmi:(a.items.map itv).length=a.items.length:=List.length_map _
   (try (conv=>whnf));(repeat ((first|refine qT ?_|refine qF ?_|refine qO ?_|(with_reducible intro z hz);(first|(replace hz:=hz (by omega);subst hz)|subst hz));(try (conv=>whnf))))
   refine Idx.mk k (acv a) _ rfl (by simp[ha]) rfl ?_
   (try (conv=>whnf));(repeat ((first|refine qT ?_|refine qF ?_|refine qO ?_|(with_reducible intro z hz);(first|(replace hz:=hz (by omega);subst hz)|subst hz));(try (conv=>whnf))))
   refine gD.mk TH false (by rw[hlk];rfl) (by rw[hlk];rfl) ?_
   (try (conv=>whnf));(repeat ((first|refine qT ?_|refine qF ?_|refine qO ?_|(with_reducible intro z hz);(first|(replace hz:=hz (by omega);subst hz)|subst hz));(try (conv=>whnf))))
   refine hLP _ _ _ Nat (fun i=>⟨[(2,.ptr 3 1 0),(5,.ptr 5 1 0),(11,.imm (.sl 7 (g.acts.map acv))),(12,.imm (.int .i64 (g.acts.length:Nat))),(13,.imm (.int .i64 (k:Nat))),(36,.imm (.sl 25 (a.items.map itv))),(37,.imm (.int .i64 (a.items.length:Nat))),(38,.imm (.int .i64 (i:Nat)))],rgB ⟨cB R.acts a.num a,R.jf,(eH a.num a.day 0 (a.items.take i)).foldl pz R.cors⟩++[bxR,bxG g,bxA a,bxZ]⟩) (fun i=>i≤a.items.length) (fun i=>a.items.length - i) 0 (Nat.zero_le _) ((aC.qD 0 ((mkL kI acv (cB R.acts a.num a))) rfl (by exact hpa)).trans ((qSL 7 rfl rfl (hE:=by (repeat ((conv=>whnf);first|exact trivial|refine And.intro (by first|exact av.any|exact av.eq (by with_reducible rfl) rfl|exact av.eq (congrArg (fun z=>PV.imm (IV.int IntKind.i64 z)) (by first|omega|(simp[hmi];done)|(simp[hmi];omega))) rfl|exact av.eq (by first|(simp[hmi];done)|fail) rfl|exact av.eq rfl rfl|exact av.le rfl (ILe.nil _)) ?_)))))) ?_
   intro i hi
   have hhi:=Nat.lt_or_ge i a.items.length
   cases hhi with
   |inl hil=>
    refine (?_:∀Q:Exit→AS→Prop,vcS _ _ _ _ _ _ _ (dV _ _ _ _ _ _ Q)) _;intro Q
    obtain⟨x,hx⟩:∃x,a.items[i]?=some x:=⟨a.items[i],List.getElem?_eq_getElem hil⟩
    have hsi:=Kj (n:=a.num) (d:=a.day) hx R.cors
    generalize (eH a.num a.day 0 (a.items.take i)).foldl pz R.cors=M at *
    have hIc:=RS x
    have hAd:=Oy (mkL kI acv (cB R.acts a.num a)) (mkL kI IV.bool R.jf) M ⟨a.num,(i:Nat),a.day,x⟩
    rw[aR x]at hIc
    unfold eiv at hAd
    cases hc:isC x with
    |true=>
     have hai:pz M ⟨a.num,(i:Nat),a.day,x⟩=rZ M ⟨a.num,(i:Nat),a.day,x⟩:=by unfold pz;rw[hc];rfl
     rw[hai]at hsi
     rw[hc]at hIc
     (try (conv=>whnf));(repeat ((first|refine qT ?_|refine qF ?_|refine qO ?_|(with_reducible intro z hz);(first|(replace hz:=hz (by omega);subst hz)|subst hz));(try (conv=>whnf))))
     refine Idx.mk i (itv x) _ rfl (by simp[hx]) (by rw[aR x]) ?_
     (try (conv=>whnf));(repeat ((first|refine qT ?_|refine qF ?_|refine qO ?_|(with_reducible intro z hz);(first|(replace hz:=hz (by omega);subst hz)|subst hz)|(refine ah.mk _ (hC _ _ _ (PCw.of hIc)) (fun js hjs=>?_);subst hjs));(try (conv=>whnf))))
     refine bV.mk ([]) (rgC ⟨cB R.acts a.num a,R.jf,rZ M ⟨a.num,(i:Nat),a.day,x⟩⟩) (hB _ _ _ _ _ (hAd)) ?_
     (try (conv=>whnf));(repeat ((first|refine qT ?_|refine qF ?_|refine qO ?_|(with_reducible intro z hz);(first|(replace hz:=hz (by omega);subst hz)|subst hz));(try (conv=>whnf))))
     exact⟨i+1,by omega,by dsimp only;omega,by
      dsimp only[]
      rw[hsi]
      exact (qSL 7 rfl rfl)⟩
    |false=>
     have hai:pz M ⟨a.num,(i:Nat),a.day,x⟩=M:=by unfold pz;rw[hc];rfl
     rw[hai]at hsi
     rw[hc]at hIc
     (try (conv=>whnf));(repeat ((first|refine qT ?_|refine qF ?_|refine qO ?_|(with_reducible intro z hz);(first|(replace hz:=hz (by omega);subst hz)|subst hz));(try (conv=>whnf))))
     refine Idx.mk i (itv x) _ rfl (by simp[hx]) (by rw[aR x]) ?_
     (try (conv=>whnf));(repeat ((first|refine qT ?_|refine qF ?_|refine qO ?_|(with_reducible intro z hz);(first|(replace hz:=hz (by omega);subst hz)|subst hz)|(refine ah.mk _ (hC _ _ _ (PCw.of hIc)) (fun js hjs=>?_);subst hjs));(try (conv=>whnf))))
     exact⟨i+1,by omega,by dsimp only;omega,by
      dsimp only[]
      rw[hsi]
      exact (qSL 7 rfl rfl)⟩
   |inr hig=>
    obtain rfl:i=a.items.length:=by omega
    rw[List.take_length]
    (try (conv=>whnf));(repeat ((first|refine qT ?_|refine qF ?_|refine qO ?_|(with_reducible intro z hz);(first|(replace hz:=hz (by omega);subst hz)|subst hz));(try (conv=>whnf))))
    exact⟨k+1,by omega,by dsimp only;omega,by
     dsimp only[]
     rw[hst]
     exact (qSL 5 rfl rfl)⟩
 |inr hge=>
  obtain rfl:k=g.acts.length:=by omega
  rw[List.take_length]
  (try (conv=>whnf));(repeat ((first|refine qT ?_|refine qF ?_|refine qO ?_|(with_reducible intro z hz);(first|(replace hz:=hz (by omega);subst hz)|subst hz));(try (conv=>whnf))))
  exact hfin _ (qSL 3 rfl rfl)
end Go.Proofs.YtfjibfdelbodjaaGreat.Po
namespace Go.Proofs.YtfjibfdelbodjaaGreat.Po
open Go Go.Pv Go.RowKit
set_option linter.unusedSimpArgs false
open Lab Lcs Go.Proofs.YtfjibfdelbodjaaGreat Go.Proofs.YtfjibfdelbodjaaGreat.Pu
set_option maxRecDepth 10000
set_option maxHeartbeats 32000000
theorem G7:PCB Tryz.prog aM 120 [] [.dead 1,.dead 1,.dead 1] [.agg [.row 0 2,.row 1 2,.row 2 2]] [.map (.int .i64) 2 [],.map (.int .i64) 2 [],.map kkC 2 []]:=by
 refine PCB.aj (T:=tb0) ay aH rfl mixed Tryz.func120 rfl rfl rfl (Nat.le_of_ble_eq_true rfl) rfl ?_;intro Γ C WK LP fin h0 hk0 hW hC hB hR hLP hfin
 have h03:Γ.n0=3:=h0
 (try (conv=>whnf));(repeat ((first|refine qT ?_|refine qF ?_|refine qO ?_|(with_reducible intro z hz);(first|(replace hz:=hz (by omega);subst hz)|subst hz));(try (conv=>whnf))))
 exact hfin _ ((aC.adopt 0 4 2 (by decide) rfl rfl (by rw[h0];exact Nat.le_of_ble_eq_true rfl) (by first|omega|(intro _;rw[hk0 _ _ rfl];exact Nat.le_of_ble_eq_true rfl)) (by repeat (first|exact trivial|refine And.intro (eD _ _ _ _ _) ?_|refine And.intro rfl ?_))).trans ((aC.adopt 1 5 2 (by decide) rfl rfl (by rw[h0];exact Nat.le_of_ble_eq_true rfl) (by first|omega|(intro _;rw[hk0 _ _ rfl];exact Nat.le_of_ble_eq_true rfl)) (by repeat (first|exact trivial|refine And.intro (eD _ _ _ _ _) ?_|refine And.intro rfl ?_))).trans ((aC.adopt 2 6 2 (by decide) rfl rfl (by rw[h0];exact Nat.le_of_ble_eq_true rfl) (by first|omega|(intro _;rw[hk0 _ _ rfl];exact Nat.le_of_ble_eq_true rfl)) (by repeat (first|exact trivial|refine And.intro (eD _ _ _ _ _) ?_|refine And.intro rfl ?_))).trans (qSL 3 rfl rfl))))
def nwR (f:FuncId):Nat:=bif Nat.beq f 120 then 4 else bif Nat.beq f 76 then 4 else bif Nat.beq f 79 then 1 else bif Nat.beq f 82 then 1 else 0
noncomputable def tbr (fr:Nat→List Nat) (hk:Nat→Bool):Tb:=⟨Pv.look tdl,eqs,fun _=>none,fr,hk,nwR⟩
noncomputable abbrev SL (fr:Nat→List Nat):Tb:=tbr fr fun _=>false
noncomputable abbrev SE (hk:Nat→Bool):Tb:=tbr (fun _=>[]) hk
noncomputable abbrev MG:Tb:=SL fun _=>[]
theorem l8 {fr:Nat→List Nat} {hk:Nat→Bool}:∀t d,(tbr fr hk).td t=some d→aJ Tryz.prog t=some d:=Pv.look_ok lY
theorem Ld {l:List Gz} {k:Nat} {x:Gz} (hx:l[k]?=some x) (r:Rg):(l.take (k+1)).foldl vS r=vS ((l.take k).foldl vS r) x:=by
 rw[take_at hx,List.foldl_append,List.foldl_cons,List.foldl_nil]
abbrev KL (r:Rg):List Blk:=[.map (.int .i64) 2 (mkL kI acv r.acts),.map (.int .i64) 2 (mkL kI IV.bool r.jf),.map kkC 2 (mkL kv2 eiv r.cors)]
def SmG (g:Gz):Prop:=g.acts.length≤1000000∧∀a∈g.acts,SmA a
end Go.Proofs.YtfjibfdelbodjaaGreat.Po
namespace Go.Proofs.YtfjibfdelbodjaaGreat.Po
open Go Go.Pv Go.RowKit
set_option linter.unusedSimpArgs false
open Lab Lcs Go.Proofs.YtfjibfdelbodjaaGreat Go.Proofs.YtfjibfdelbodjaaGreat.Pu
set_option maxRecDepth 10000
set_option maxHeartbeats 32000000
theorem zD (l:List Gz) (hl:l.length≤1000000) (hG:∀g∈l,SmG g):PCB Tryz.prog aM 76 [.imm (.sl 4 (l.map gzv))] [.dead 1,.dead 1,.dead 1] [.agg [.row 0 2,.row 1 2,.row 2 2]] (KL (lG l)):=by
 have hml:(l.map gzv).length=l.length:=List.length_map _
 have hN:=G7
 unfold lG
 refine PCB.aj (T:=(SE fun r=>Nat.beq r 1)) ay l8 rfl mixed Tryz.func76 rfl rfl rfl (Nat.le_of_ble_eq_true rfl) rfl ?_;intro Γ C WK LP fin h0 hk0 hW hC hB hR hLP hfin
 have h03:Γ.n0=3:=h0
 (try (conv=>whnf));(repeat ((first|refine qT ?_|refine qF ?_|refine qO ?_|(with_reducible intro z hz);(first|(replace hz:=hz (by omega);subst hz)|subst hz));(try (conv=>whnf))))
 refine hW _ _ _ (aC.spare.trans aC.spare) ?_
 (try (conv=>whnf));(repeat ((first|refine qT ?_|refine qF ?_|refine qO ?_|(with_reducible intro z hz);(first|(replace hz:=hz (by omega);subst hz)|subst hz));(try (conv=>whnf))))
 refine bV.mk ([.agg [.row 0 2,.row 1 2,.row 2 2]]) ([.map (.int .i64) 2 [],.map (.int .i64) 2 [],.map kkC 2 []]) (hB _ _ _ _ _ (hN)) ?_
 (try (conv=>whnf));(repeat ((first|refine qT ?_|refine qF ?_|refine qO ?_|(with_reducible intro z hz);(first|(replace hz:=hz (by omega);subst hz)|subst hz));(try (conv=>whnf))))
 refine hLP _ _ _ Nat (fun k=>⟨[(2,.ptr 3 1 0),(3,.ptr 7 1 0),(7,.imm (.sl 4 (l.map gzv))),(8,.imm (.int .i64 (l.length:Nat))),(9,.imm (.int .i64 (k:Nat)))],KL ((l.take k).foldl vS ⟨[],[],[]⟩)++[.box 1 [.imm .nm,.imm .nm,.imm .nm],.dead 79,.dead 79,.dead 2,.box 1 [.row 0 2,.row 1 2,.row 2 2]]⟩) (fun k=>k≤l.length) (fun k=>l.length - k) 0 (Nat.zero_le _) ((aC.adopt 0 6 2 (by decide) rfl rfl (by rw[h0];exact Nat.le_of_ble_eq_true rfl) (by first|omega|(intro _;rw[hk0 _ _ rfl];exact Nat.le_of_ble_eq_true rfl)) (by repeat (first|exact trivial|refine And.intro (eD _ _ _ _ _) ?_|refine And.intro rfl ?_))).trans ((aC.adopt 1 4 2 (by decide) rfl rfl (by rw[h0];exact Nat.le_of_ble_eq_true rfl) (by first|omega|(intro _;rw[hk0 _ _ rfl];exact Nat.le_of_ble_eq_true rfl)) (by repeat (first|exact trivial|refine And.intro (eD _ _ _ _ _) ?_|refine And.intro rfl ?_))).trans ((aC.adopt 2 5 2 (by decide) rfl rfl (by rw[h0];exact Nat.le_of_ble_eq_true rfl) (by first|omega|(intro _;rw[hk0 _ _ rfl];exact Nat.le_of_ble_eq_true rfl)) (by repeat (first|exact trivial|refine And.intro (eD _ _ _ _ _) ?_|refine And.intro rfl ?_))).trans (qSL 8 rfl rfl (hE:=by (repeat ((conv=>whnf);first|exact trivial|refine And.intro (by first|exact av.any|exact av.eq (by with_reducible rfl) rfl|exact av.eq (congrArg (fun z=>PV.imm (IV.int IntKind.i64 z)) (by first|omega|(simp[hml];done)|(simp[hml];omega))) rfl|exact av.eq (by first|(simp[hml];done)|fail) rfl|exact av.eq rfl rfl|exact av.le rfl (ILe.nil _)) ?_))))))) ?_
 intro k hk
 have hho:=Nat.lt_or_ge k l.length
 cases hho with
 |inl hlt=>
  refine (?_:∀Q:Exit→AS→Prop,vcS _ _ _ _ _ _ _ (dV _ _ _ _ _ _ Q)) _;intro Q
  obtain⟨g,hg⟩:∃g,l[k]?=some g:=⟨l[k],List.getElem?_eq_getElem hlt⟩
  obtain⟨hs1,hs2⟩:=hG g (List.mem_of_getElem? hg)
  have hst:=Ld hg ⟨[],[],[]⟩
  generalize (l.take k).foldl vS ⟨[],[],[]⟩=R at *
  have hAd:=PW R g hs1 hs2
  unfold gzv at hAd
  (try (conv=>whnf));(repeat ((first|refine qT ?_|refine qF ?_|refine qO ?_|(with_reducible intro z hz);(first|(replace hz:=hz (by omega);subst hz)|subst hz));(try (conv=>whnf))))
  refine Idx.mk k (gzv g) _ rfl (by simp[hg]) rfl ?_
  (try (conv=>whnf));(repeat ((first|refine qT ?_|refine qF ?_|refine qO ?_|(with_reducible intro z hz);(first|(replace hz:=hz (by omega);subst hz)|subst hz));(try (conv=>whnf))))
  refine bV.mk ([]) (rgC (vS R g)) (hB _ _ _ _ _ (hAd)) ?_
  (try (conv=>whnf));(repeat ((first|refine qT ?_|refine qF ?_|refine qO ?_|(with_reducible intro z hz);(first|(replace hz:=hz (by omega);subst hz)|subst hz));(try (conv=>whnf))))
  exact⟨k+1,by omega,by dsimp only;omega,by
   dsimp only[]
   rw[hst]
   exact (qSL 8 rfl rfl)⟩
 |inr hge=>
  obtain rfl:k=l.length:=by omega
  rw[List.take_length]
  (try (conv=>whnf));(repeat ((first|refine qT ?_|refine qF ?_|refine qO ?_|(with_reducible intro z hz);(first|(replace hz:=hz (by omega);subst hz)|subst hz));(try (conv=>whnf))))
  exact hfin _ (qSL 3 rfl rfl)
end Go.Proofs.YtfjibfdelbodjaaGreat.Po
