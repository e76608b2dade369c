/-
  Plain values: the same reckoning over a list of the slots that hold something, the newest first. Plain values: less precise states, bodies of calls, over slots by their numbers. Plain values: shorter steps: a call that answers yes or no, an element of a mapped list, what is handed back by an equation. Plain values: the check with which every method of strings.Builder that writes begins, as a call that is given the builder's block. A run takes no draw back: of the model alone (of no program). Plain values: a map as a list of pairs, said in one's own types (of no program). Plain values: a map of rows: a row goes out and comes in again, the rows are told as plain in the end (of no program).
-/
import Derived.Test.YtfjibfdelbodjaaGreatP6
import Derived.Lib.Builder
import Derived.Calls
import Derived.RunT
namespace Go.Pv
open Go.RowKit (Below)
set_option linter.unusedSimpArgs false
set_option linter.unusedSectionVars false
def um:Bool→List (IV×IV)→List (IV×IV)
 |false,ps=>ps
 |true,[]=>[]
 |true,_::ps=>ps
inductive NxK (l:List (IV×IV)) (E:Prop) (F:Nat→IV×IV→Prop):Prop
 |mk (h0:l=[]→E) (h1:∀i p,l[i]?=some p→F i p)
def Iy (ops:Array Oper) (draw:Bool):Option (Operand×Option Nat):=match draw,ops.toList with
 |false,o::_=>(match o.guard,o.op with
  |none,.next x false=>some (x,o.dst)
  |_,_=>none)
 |_,_=>none
theorem JW {Q:Nat→Prop} {w:World}:∀{ps:List (IV×IV)} {es:List MapEntry},dB Q w ps es→∀(i:Nat) (e:MapEntry),es[i]?=some e→∃p,ps[i]?=some p∧aF Q w p.1 e.key∧aF Q w p.2 e.val∧dB Q w (ps.eraseIdx i) (es.eraseIdx i)
 |[],es,h,i,e,he=>by unfold dB at h;subst h;simp at he
 |(a,b)::ps,es,h,i,e,he=>by
  unfold dB at h
  obtain⟨e0,r,h0,h1,h2,h3⟩:=h
  subst h0
  cases i with
  |zero=>
   obtain rfl:e0=e:=by simpa using he
   exact⟨(a,b),rfl,h1,h2,h3⟩
  |succ i=>
   obtain⟨p,g1,g2,g3,g4⟩:=JW h3 i e (by simpa using he)
   refine⟨p,by simpa using g1,g2,g3,?_⟩
   rw[List.eraseIdx_cons_succ,List.eraseIdx_cons_succ]
   unfold dB
   exact⟨e0,_,rfl,h1,h2,g4⟩
theorem vJ:∀{l:List MapEntry} {i:Nat} {e:MapEntry},(l.map (·.born)).Nodup→l[i]?=some e→l.filter (fun x=>x.born != e.born)=l.eraseIdx i
 |[],i,e,_,h=>by simp at h
 |a::l,0,e,hn,h=>by
  obtain rfl:a=e:=by simpa using h
  rw[List.map_cons,List.nodup_cons]at hn
  rw[List.filter_cons_of_neg (by simp),List.eraseIdx_cons_zero,List.filter_eq_self]
  intro x hx
  have:x.born≠a.born:=fun e=>hn.1 (by rw[←e];exact List.mem_map.2 ⟨x,hx,rfl⟩)
  simpa using this
 |a::l,i+1,e,hn,h=>by
  rw[List.map_cons,List.nodup_cons]at hn
  have hl:l[i]?=some e:=by simpa using h
  have:a.born≠e.born:=fun q=>hn.1 (by rw[q];exact List.mem_map.2 ⟨e,List.mem_of_getElem? hl,rfl⟩)
  rw[List.filter_cons_of_pos (by simpa using this),List.eraseIdx_cons_succ,vJ hn.2 hl]
theorem Le {es:Array MapEntry} {seen:Array Nat} {i:Nat} {e:MapEntry} (hn:(es.toList.map (·.born)).Nodup) (h:(leftOf es seen).toList[i]?=some e):(leftOf es (seen.push e.born)).toList=(leftOf es seen).toList.eraseIdx i:=by
 have h1:(leftOf es seen).toList=es.toList.filter fun x=>!seen.contains x.born:=by unfold leftOf;rw[Array.toList_filter]
 have h2:((leftOf es seen).toList.map (·.born)).Nodup:=by rw[h1];exact (List.filter_sublist.map _).nodup hn
 rw[←vJ h2 h,h1,List.filter_filter]
 unfold leftOf
 rw[Array.toList_filter]
 congr 1
 funext x
 rw[Array.contains_push]
 cases hs:seen.contains x.born<;>cases hq:(x.born == e.born)<;>simp[bne,hq]
theorem GJ {P:Program} {Γ:Ctx} {rid:Nat} {ops:Array Oper} {o:Oper} {rest:List Oper} {x:Operand} (hops:ops.toList=o::rest) (hg:o.guard=none) (hop:o.op=.next x false) {E:List PV} {B:List Blk} {r g:Nat} {b:Bool} {ps:List (IV×IV)} (hx:pev Γ E x=.ptr r g 0) (hb:B[r]?=some (.map (.iter b) g ps)) {Q:Exit→Act→World→Prop}
  (h0:um b ps=[]→∀a w,γ Γ ⟨Gb E o.dst (.tup [.imm (.bool false)]),B⟩ a w→wpOps P ops Q (List.range' 1 rest.length) a w)
  (h1:∀i p,(um b ps)[i]?=some p→∀a w,γ Γ ⟨Gb E o.dst (.tup [.imm (.bool true),.imm p.1,.imm p.2]),B.set r (.map (.iter true) g (p::(um b ps).eraseIdx i))⟩ a w→wpOps P ops Q (List.range' 1 rest.length) a w) {a:Act} {w:World} (hγ:γ Γ ⟨E,B⟩ a w):(Code.region rid ops false).wp P Q a w:=by
 refine wp_region ?_
 have hsz:ops.size=rest.length+1:=by rw[←Array.length_toList,hops];rfl
 have ho:ops[0]?=some o:=by rw[←Array.getElem?_toList,hops];rfl
 rw[List.range_eq_range',hsz,List.range'_succ]
 unfold wpOps
 rw[ho]
 have hwant:Region.wanted o (yielded ops a.tmps)=true:=by unfold Region.wanted;rw[hg]
 simp only[hwant,if_true]
 refine Or.inl ?_
 unfold Oper.wp
 have key:∀v w',(Instr.next (a.eval x) false o.type).run P w=.ok v w'→(execOp a.eval o).run P w=.ok (.value v) w':=fun v w' h=>by simp[execOp,hop,h]
 have hγ0:=hγ
 obtain⟨hd,k,hI,hT⟩:=hγ
 have hR:=dP hI hT x
 rw[hx]at hR
 obtain⟨hv,hGr,ib,m,es,clock,seen,e1,e2,e3,e4,e5,e6,e7⟩:=Ee (s:=⟨E,B⟩) hI hR hb
 have hleft:dB k.Q w (um b ps) (leftOf es seen).toList:=by
  cases b with
  |false=>exact e7
  |true=>
   obtain⟨p,l,e,rfl,h2,_⟩:=e7
   exact h2
 rcases run_next_at (P:=P) w o.type ib m clock clock seen es clock e3 e5 e6.1 (Nat.le_refl _) with ⟨hz,hrun⟩|⟨e,he,w1,hw1,hrun⟩
 ·rw[key _ _ (by rw[e1];exact hrun)]
  refine h0 ?_ (a.put o.dst _) w ⟨by cases o.dst<;>exact hd,k,hI,?_⟩
  ·have:=vH hleft
   rw[Array.length_toList,hz]at this
   exact List.length_eq_zero_iff.1 this.symm
  ·exact rD (by
    unfold Rep
    exact⟨[.bool false],rfl,by unfold aI;exact⟨.bool false,[],rfl,by rw[aB];unfold aF;rfl,by unfold aI;rfl⟩⟩) hT
 ·rw[key _ _ (by rw[e1];exact hrun)]
  obtain⟨i,hi⟩:∃i,(leftOf es seen).toList[i]?=some e:=by
   obtain⟨i,hi,he⟩:=List.getElem_of_mem he
   exact⟨i,by rw[List.getElem?_eq_getElem hi,he]⟩
  obtain⟨p,hp,hk1,hk2,hk3⟩:=JW hleft i e hi
  have hmem:e∈es.toList:=by
   unfold leftOf at he
   rw[Array.toList_filter]at he
   exact (List.mem_filter.1 he).1
  refine h1 i p hp (a.put o.dst _) _ ?_
  have hγ1:γ Γ ⟨E,B⟩ a w1:=by
   rcases hw1 with rfl|rfl
   ·exact hγ0
   ·exact O3 hγ0
  have hheap:w1.heap=w.heap:=by rcases hw1 with rfl|rfl<;>rfl
  have hq1:∀(kk:K),(∀b,kk.Q b→kk.Q b∧w1.heap[b]?=w.heap[b]?):=fun kk b hb=>⟨hb,by rw[hheap]⟩
  have hI1:Inv Γ k B w1:=by
   rcases hw1 with rfl|rfl
   ·exact hI
   ·have he:Ext k B.length w k B.length w.drew:=⟨Nat.le_refl _,fun b hb=>⟨hb,rfl⟩,fun _ _=>⟨Nat.le_refl _,fun _=>rfl⟩⟩
    exact⟨hI.below.drew,hI.lt,hI.le,hI.qs,hI.rr.below (Below.refl _ _).drew,fun g cs hc=>aU he _ _ (hI.gl g cs hc),fun r x hx=>dG (hI.blk r x hx) he rfl rfl (fun _ _=>rfl),hI.sep,hI.inj,⟨hI.kp.fr,hI.kp.ext.trans he⟩,hI.nf,hI.hn⟩
  have hx1:Ext k B.length w k B.length w1:=⟨Nat.le_refl _,fun b hb=>⟨hb,by rw[hheap]⟩,fun _ _=>⟨Nat.le_refl _,fun _=>rfl⟩⟩
  have hT1:=bU hx1 _ _ hT
  have hbase:base (k.ρ r)=some ib:=by rw[←hv,e1];rfl
  have hsep:=hI1.sep r _ ib hb hbase
  have e3':w1.heap[ib]?=some (.mapIter (some m) clock seen clock):=by rw[hheap];exact e3
  obtain⟨f1,f2⟩:=MapKept.heap_set (o':=.mapIter (some m) clock (seen.push e.born) clock) e3'
  have hmi:m≠ib:=fun h=>hsep.1 (h ▸ e4)
  obtain⟨q1,q2⟩:=bJ (v:=k.ρ r) (g:=g) (y:=.map (.iter true) g (p::(um b ps).eraseIdx i)) (w':=ChangeMaps.setBlock w1 ib (.mapIter (some m) clock (seen.push e.born) clock)) hI1 hb (Or.inr ⟨hGr,rfl⟩)
   ⟨rfl,rfl,rfl,by simp[ChangeMaps.setBlock],fun c hc=>f2 c (by omega)⟩
   (fun c _ hc=>f2 c (fun h=>hc (by show some c=base (k.ρ r);rw[hbase,h]))) (fun c hc=>by
    rw[hbase]at hc
    cases hc
    exact⟨Or.inr hbase,by simpa[ChangeMaps.setBlock]using hsep.2.2⟩) (fun hx'=>by
    have hmono:=fun c (hc:k.Q c)=>hx'.q c hc
    have hm2:∀c,k.Q c→k.Q c∧w1.heap[c]?=w.heap[c]?:=fun c hc=>⟨hc,by rw[hheap]⟩
    refine⟨K.bP _ _ _ _,ib,m,es,clock,seen.push e.born,by rw[K.bL,←hv];exact e1,e2,f1,e4,?_,e6,p,_,e,rfl,?_,hmem,⟨seen,rfl⟩,aQ hmono _ _ (aQ hm2 _ _ hk1),aQ hmono _ _ (aQ hm2 _ _ hk2)⟩
    ·exact (f2 m hmi).trans (by rw[hheap];exact e5)
    ·rw[Le e6.2.1 hi]
     exact eF hmono _ _ (eF hm2 _ _ hk3))
  refine⟨by cases o.dst<;>exact hd,_,q2,?_⟩
  show aI _ (B.set r _).length _ _ _
  rw[List.length_set]
  refine rD ?_ (bU q1 _ _ hT1)
  have g1:=aQ q1.q _ _ (aQ (fun c (hc:k.Q c)=>(⟨hc,by rw[hheap]⟩:k.Q c∧w1.heap[c]?=w.heap[c]?)) _ _ hk1)
  have g2:=aQ q1.q _ _ (aQ (fun c (hc:k.Q c)=>(⟨hc,by rw[hheap]⟩:k.Q c∧w1.heap[c]?=w.heap[c]?)) _ _ hk2)
  unfold Rep
  refine⟨[.bool true,e.key,e.val],rfl,?_⟩
  unfold aI
  refine⟨.bool true,[e.key,e.val],rfl,by rw[aB];unfold aF;rfl,?_⟩
  unfold aI
  refine⟨e.key,[e.val],rfl,aB.2 g1,?_⟩
  unfold aI
  exact⟨e.val,[],rfl,aB.2 g2,by unfold aI;rfl⟩
structure AS where
 A:List (Nat×PV)
 B:List Blk
def toL (n:Nat) (A:List (Nat×PV)):List PV:=(List.range n).map (eY A)
def AS.st (n:Nat) (s:AS):St:=⟨toL n s.A,s.B⟩
theorem Pn (n:Nat) (A:List (Nat×PV)):(toL n A).length=n:=by simp[toL]
theorem I6 (n:Nat) (A:List (Nat×PV)) (t:Nat):(toL n A).getD t .any=if t < n then eY A t else .any:=by
 unfold toL
 rw[List.getD_eq_getElem?_getD,List.getElem?_map]
 by_cases h:t < n
 ·rw[List.getElem?_range h,if_pos h];rfl
 ·rw[List.getElem?_eq_none (by simpa using h),if_neg h];rfl
theorem jG (t s:Nat) (p:PV) (A:List (Nat×PV)):eY ((s,p)::A) t=if s=t then p else eY A t:=by
 rw[eY]
 split
 ·rename_i h _;rw[if_pos h]
 ·rename_i h _;rw[if_neg h]
theorem JR (n:Nat) (A:List (Nat×PV)) (t:Nat) (p:PV):(toL n A).set t p=toL n ((t,p)::A):=by
 apply List.ext_getElem?
 intro i
 unfold toL
 rw[List.getElem?_set,List.getElem?_map,List.getElem?_map]
 by_cases hi:i < n
 ·rw[List.getElem?_range hi]
  simp only[Option.map_some,jG,List.length_map,List.length_range]
  by_cases h:t=i
  ·subst h;simp[hi]
  ·simp[h]
 ·rw[List.getElem?_eq_none (by simpa using hi)]
  simp only[Option.map_none,List.length_map,List.length_range]
  by_cases h:t=i
  ·subst h;simp[hi]
  ·simp[h]
theorem Bh {n:Nat} {A:List (Nat×PV)} {f:PV→PV} (hf:f .any=.any):(toL n A).map f=toL n (A.map fun q=>(q.1,f q.2)):=by
 have:∀t,f (eY A t)=eY (A.map fun q=>(q.1,f q.2)) t:=by
  intro t
  induction A with
  |nil=>exact hf
  |cons q A ih=>
   obtain⟨s,p⟩:=q
   simp only[List.map_cons,jG]
   split
   ·rfl
   ·exact ih
 unfold toL
 rw[List.map_map]
 congr 1
 funext t
 exact this t
def Pf:List (Nat×PV)→Nat→(PV→Prop)→Prop
 |[],_,K=>K .any
 |(s,p)::l,t,K=>match Nat.decEq s t with
  |isTrue _=>K p
  |isFalse _=>Pf l t K
theorem Bo:∀(A:List (Nat×PV)) (t:Nat) (K:PV→Prop),Pf A t K=K (eY A t)
 |[],_,_=>rfl
 |(s,p)::l,t,K=>by
  rw[jG]
  unfold Pf
  split
  ·rename_i h _;rw[if_pos h]
  ·rename_i h _;rw[if_neg h];exact Bo l t K
def Cj (n:Nat) (A:List (Nat×PV)) (t:Nat) (K:PV→Prop):Prop:=match Nat.decLt t n with
 |isTrue _=>Pf A t K
 |isFalse _=>K .any
theorem kr (n:Nat) (A:List (Nat×PV)) (t:Nat) (K:PV→Prop):Cj n A t K=K ((toL n A).getD t .any):=by
 unfold Cj
 rw[I6]
 split
 ·rename_i h _;rw[if_pos h,Bo]
 ·rename_i h _;rw[if_neg h]
def Da (n:Nat) (A:List (Nat×PV)):List Nat→(List (Nat×PV)→Prop)→Prop
 |[],K=>K []
 |t::ts,K=>Cj n A t fun p=>Da n A ts fun vs=>K ((t,p)::vs)
theorem zw (n:Nat) (A:List (Nat×PV)):∀(ts:List Nat) (K:List (Nat×PV)→Prop),Da n A ts K=K (ts.map fun t=>(t,(toL n A).getD t .any))
 |[],_=>rfl
 |t::ts,K=>by unfold Da;rw[kr,zw n A ts];rfl
def O6 (A:List (Nat×PV)):Option Nat→PV→(List (Nat×PV)→Prop)→Prop
 |some d,v,K=>K ((d,v)::A)
 |none,_,K=>K A
def uw (A:List (Nat×PV)):Option Nat→PV→List (Nat×PV)
 |some d,v=>(d,v)::A
 |none,_=>A
theorem vE (A:List (Nat×PV)) (d:Option Nat) (v:PV) (K:List (Nat×PV)→Prop):O6 A d v K=K (uw A d v):=by cases d<;>rfl
theorem kQ (n:Nat) (A:List (Nat×PV)) (d:Option Nat) (v:PV):Gb (toL n A) d v=toL n (uw A d v):=by
 cases d with
 |none=>rfl
 |some d=>exact JR n A d v
def sQ:List (Nat×PV)→(List (Nat×PV)→Prop)→Prop
 |[],K=>K []
 |(t,p)::l,K=>fM p fun p=>sQ l fun l=>K ((t,p)::l)
theorem o8:∀(A:List (Nat×PV)) (K:List (Nat×PV)→Prop),sQ A K=K A
 |[],_=>rfl
 |(t,p)::l,K=>by unfold sQ;rw[tC,o8 l]
def C9 (n:Nat) (T:Tb) (C:CT) (ops:Array Oper) (draw:Bool) (o:Oper) (id:Nat) (A:List (Nat×PV)) (B:List Blk) (sh:List Sh) (K:Nat→List (Nat×PV)→List Blk→List Sh→Prop):Prop:=
 Da n A (kP o) fun vs=>mQ (TF T o id (evl T vs) B) fun rd=>mQ (rdX o id rd) fun rx=>aN T C o.op id (evl T vs) (Sr (uF o (evl T vs)++(rx++newId o id)) B) rd fun v ws=>
  fM v fun v=>CY ws fun ws=>O6 A o.dst v fun A'=>Fq B ws fun B'=>J4 ws fun wk=>mQ (gtr ops o++kP o) fun tr=>mQ (uF o (evl T vs)++(rx++newId o id)) fun br=>
   Qk o draw id sh ⟨o.dst,wk,tr,br⟩ fun id sh=>K id A' B' sh
def qd (ops:Array Oper) (draw:Bool) (o:Oper) (id:Nat) (A:List (Nat×PV)) (B:List Blk) (sh:List Sh) (K:Nat→List (Nat×PV)→List Blk→List Sh→Prop):Prop:=
 O6 A o.dst (.tup []) fun A'=>mQ (gtr ops o) fun tr=>Qk o draw id sh ⟨o.dst,[],tr,[]⟩ fun id sh=>K id A' B sh
def pR (n:Nat) (T:Tb) (C:CT) (ops:Array Oper) (draw:Bool):List Oper→Nat→List (Nat×PV)→List Blk→List Sh→(List (Nat×PV)→List Blk→List Sh→Prop)→Prop
 |[],_,A,B,sh,K=>K A B sh
 |o::r,id,A,B,sh,K=>
  match o.guard with
  |none=>C9 n T C ops draw o id A B sh fun id A B sh=>pR n T C ops draw r id A B sh K
  |some (j,want)=>match (ops[j]?).bind (·.dst) with
   |some d=>Cj n A d fun p=>match p with
    |.imm (.bool b)=>match b,want with
     |true,true|false,false=>C9 n T C ops draw o id A B sh fun id A B sh=>pR n T C ops draw r id A B sh K
     |true,false|false,true=>qd ops draw o id A B sh fun id A B sh=>pR n T C ops draw r id A B sh K
    |.tup []=>qd ops draw o id A B sh fun id A B sh=>pR n T C ops draw r id A B sh K
    |_=>False
   |none=>False
def fzA (r g:Nat) (i:IV) (A:List (Nat×PV)):List (Nat×PV):=A.map fun q=>(q.1,fz r g i q.2)
theorem Fz (r g:Nat) (i:IV):∀l:List PV,fzL r g i l=l.map (fz r g i)
 |[]=>by simp[fzL]
 |a::l=>by simp[fzL,Fz r g i l]
theorem Bl (n r g:Nat) (i:IV) (A:List (Nat×PV)):fzL r g i (toL n A)=toL n (fzA r g i A):=by
 rw[Fz,Bh (f:=fz r g i) (by simp[fz])]
 rfl
def frA:List Nat→AS→(AS→Prop)→Prop
 |[],s,K=>K s
 |r::rs,s,K=>match s.B[r]? with
  |some (.row _ sz g es)=>bN es fun is=>sQ (fzA r g (.sl sz is) s.A) fun A=>frA rs ⟨A,(s.B.map (fzB r g (.sl sz is))).set r (.dead g)⟩ K
  |_=>False
def hkA (b:Bool) (WK:AS→(AS→Prop)→Prop) (s:AS) (K:AS→Prop):Prop:=match b with
 |true=>WK s fun s=>sQ s.A fun A=>K ⟨A,s.B⟩
 |false=>K s
def evA (n:Nat) (T:Tb) (A:List (Nat×PV)) (x:Operand) (K:PV→Prop):Prop:=match x with
 |.tmp t=>Cj n A t K
 |x=>K (evT T [] x)
theorem NJ (n:Nat) (T:Tb) (A:List (Nat×PV)) (x:Operand) (K:PV→Prop):evA n T A x K=K (evT T (toL n A) x):=by
 cases x with
 |tmp t=>exact kr n A t K
 |_=>rfl
def Om (n:Nat) (T:Tb) (x:Operand) (d:Option Nat) (s:AS) (K:AS→Prop):Prop:=evA n T s.A x fun p=>match p with
 |.ptr r g 0=>(match s.B[r]? with
  |some (.map (.iter b) g' ps)=>if g=g' then NxK (um b ps) (O6 s.A d (.tup [.imm (.bool false)]) fun A=>K ⟨A,s.B⟩) (fun i p=>O6 s.A d (.tup [.imm (.bool true),.imm p.1,.imm p.2]) fun A=>Fq s.B [(r,.map (.iter true) g (p::(um b ps).eraseIdx i))] fun B=>K ⟨A,B⟩) else False
  |_=>False)
 |_=>False
def pq (n:Nat) (T:Tb) (C:CT) (WK:AS→(AS→Prop)→Prop) (LP:Code→AS→(Exit→AS→Prop)→Prop):Code→AS→(Exit→AS→Prop)→Prop
 |.skip,s,Q=>Q .normal s
 |.label _,s,Q=>Q .normal s
 |.exit id,s,Q=>Q (.exit id) s
 |.ret,s,Q=>Q .ret s
 |.seq x y,s,Q=>pq n T C WK LP x s fun e s'=>match e with
  |.normal=>pq n T C WK LP y s' Q
  |e=>Q e s'
 |.cond c x y,s,Q=>evA n T s.A c fun p=>match p with
  |.imm (.bool b)=>(match b with
   |true=>pq n T C WK LP x s Q
   |false=>pq n T C WK LP y s Q)
  |_=>False
 |.block id c,s,Q=>pq n T C WK LP c s fun e s'=>match e with
  |.exit id'=>if id'=id then Q .normal s' else Q (.exit id') s'
  |e=>Q e s'
 |.region rid ops draw,s,Q=>match Iy ops draw with
  |some (x,d)=>Om n T x d s fun s=>j5 (s.B++dead (nal ops.toList.tail)) fun B=>FX s.B 0 fun id=>pR n T C ops draw ops.toList.tail id s.A B [] fun A' B' _=>Q .normal ⟨A',B'⟩
  |none=>hkA (T.hk rid) WK s fun s=>frA (T.fr rid) s fun s=>j5 (s.B++dead (nal ops.toList)) fun B=>FX s.B 0 fun id=>pR n T C ops draw ops.toList id s.A B [] fun A' B' sh=>
   match draw with
   |true=>FX B 0 fun m=>Owe (SB ops.toList n m sh true=true) (Q .normal ⟨A',B'⟩)
   |false=>Q .normal ⟨A',B'⟩
 |.loop c,s,Q=>LP c s Q
 |_,_,_=>False
def vcS (n:Nat) (T:Tb) (C:CT) (WK:AS→(AS→Prop)→Prop) (LP:Code→AS→(Exit→AS→Prop)→Prop) (c:Code) (s:AS) (Q:Exit→AS→Prop):Prop:=
 sQ s.A fun A=>j5 s.B fun B=>pq n T C WK LP c ⟨A,B⟩ Q
theorem CV {n:Nat} {T:Tb} {C:CT} {WK:AS→(AS→Prop)→Prop} {LP:Code→AS→(Exit→AS→Prop)→Prop} {c:Code} {s:AS} {Q:Exit→AS→Prop}:vcS n T C WK LP c s Q=pq n T C WK LP c s Q:=by
 unfold vcS
 rw[o8,lT]
section
variable {P:Program} {Γ:Ctx} {T:Tb} (hT:∀t d,T.td t=some d→aJ P t=some d) (hE:T.eq=Γ.eqT) (hG:T.gl=Γ.X.gl)
include hT hE hG
theorem l6 {n:Nat} {ops:Array Oper} {draw:Bool}:∀{l:List Oper} {id:Nat} {A:List (Nat×PV)} {B:List Blk} {sh:List Sh} {M:List (Nat×PV)→List Blk→List Sh→Prop},pR n T (pG P Γ.X) ops draw l id A B sh M→
  ∃cr es,mI P Γ ops l id cr ⟨toL n A,B⟩=some es∧(∀e∈es,∀ob,e.ob=some ob→gq P Γ ob)∧∃A',(es.foldl bq ⟨toL n A,B⟩).E=toL n A'∧M A' (es.foldl bq ⟨toL n A,B⟩).B (if draw then sh++es.map uS else sh)
 |[],id,A,B,sh,M,h=>⟨[],[],rfl,fun e he=>(by cases he),A,rfl,by simpa[pR]using h⟩
 |o::l,id,A,B,sh,M,h=>by
  have key:∀(hw:jH ops (toL n A) o=some true),(C9 n T (pG P Γ.X) ops draw o id A B sh fun id A B sh=>pR n T (pG P Γ.X) ops draw l id A B sh M)→
    ∃cr es,mI P Γ ops (o::l) id cr ⟨toL n A,B⟩=some es∧(∀e∈es,∀ob,e.ob=some ob→gq P Γ ob)∧∃A',(es.foldl bq ⟨toL n A,B⟩).E=toL n A'∧M A' (es.foldl bq ⟨toL n A,B⟩).B (if draw then sh++es.map uS else sh):=by
   intro hw hs
   unfold C9 at hs
   simp only[zw,sI,Dw,RI,tC,zY,vE,wI]at hs
   obtain⟨c,e,h1,h2,h3,h4,h5,h6⟩:=O0 (s:=⟨toL n A,B⟩) hT hE hG hw hs
   have h7:pR n T (pG P Γ.X) ops draw l (nextId o id) (uw A o.dst e.v) (aY B e.ws) (if draw then sh++[uS e] else sh) M:=by
    rw[h5]
    exact Ka h6
   obtain⟨cr,es,g1,g2,A',g3,g4⟩:=l6 h7
   have happ:bq ⟨toL n A,B⟩ e=⟨toL n (uw A o.dst e.v),aY B e.ws⟩:=by unfold bq;rw[h4,kQ]
   refine⟨c++cr,e::es,?_,fun e' he'=>?_,A',?_,?_⟩
   ·unfold mI
    rw[h2 cr]
    simp only[]
    rw[h1 cr,happ,g1]
   ·rcases List.mem_cons.1 he' with rfl|he'
    ·exact h3
    ·exact g2 e' he'
   ·simp only[List.foldl_cons]
    rw[happ]
    exact g3
   ·simp only[List.foldl_cons,List.map_cons]
    rw[happ]
    cases draw
    ·exact g4
    ·simp only[if_true]at g4 ⊢
     rw[List.append_assoc]at g4
     exact g4
  have skip:∀(hw:jH ops (toL n A) o=some false),(qd ops draw o id A B sh fun id A B sh=>pR n T (pG P Γ.X) ops draw l id A B sh M)→
    ∃cr es,mI P Γ ops (o::l) id cr ⟨toL n A,B⟩=some es∧(∀e∈es,∀ob,e.ob=some ob→gq P Γ ob)∧∃A',(es.foldl bq ⟨toL n A,B⟩).E=toL n A'∧M A' (es.foldl bq ⟨toL n A,B⟩).B (if draw then sh++es.map uS else sh):=by
   intro hw hs
   unfold qd at hs
   simp only[vE,sI]at hs
   have h7:pR n T (pG P Γ.X) ops draw l (nextId o id) (uw A o.dst (.tup [])) B (if draw then sh++[⟨o.dst,[],gtr ops o,[]⟩] else sh) M:=Ka hs
   obtain⟨cr,es,g1,g2,A',g3,g4⟩:=l6 h7
   refine⟨if iN o.op then ⟨[],.any,[]⟩::cr else cr,⟨o.dst,.tup [],[],none,gtr ops o,[]⟩::es,?_,fun e' he'=>?_,A',?_,?_⟩
   ·unfold mI x9
    rw[hw]
    simp only[]
    have:vZ o (if iN o.op then ⟨[],.any,[]⟩::cr else cr)=cr:=by
     unfold vZ
     split<;>rfl
    rw[this]
    have:bq ⟨toL n A,B⟩ ⟨o.dst,.tup [],[],none,gtr ops o,[]⟩=⟨toL n (uw A o.dst (.tup [])),B⟩:=by
     unfold bq;rw[←kQ];rfl
    rw[this,g1]
   ·rcases List.mem_cons.1 he' with rfl|he'
    ·intro ob h;cases h
    ·exact g2 e' he'
   ·simp only[List.foldl_cons]
    have:bq ⟨toL n A,B⟩ ⟨o.dst,.tup [],[],none,gtr ops o,[]⟩=⟨toL n (uw A o.dst (.tup [])),B⟩:=by
     unfold bq;rw[←kQ];rfl
    rw[this]
    exact g3
   ·simp only[List.foldl_cons,List.map_cons]
    have:bq ⟨toL n A,B⟩ ⟨o.dst,.tup [],[],none,gtr ops o,[]⟩=⟨toL n (uw A o.dst (.tup [])),B⟩:=by
     unfold bq;rw[←kQ];rfl
    rw[this]
    cases draw
    ·exact g4
    ·simp only[if_true]at g4 ⊢
     rw[List.append_assoc]at g4
     exact g4
  unfold pR at h
  split at h
  ·rename_i hg
   exact key (by unfold jH;rw[hg]) h
  ·rename_i j want hg
   split at h
   ·rename_i d hd
    rw[kr]at h
    split at h
    ·rename_i p b hb
     split at h
     ·exact key (by unfold jH;simp only[hg,hd];rw[hb];rfl) h
     ·exact key (by unfold jH;simp only[hg,hd];rw[hb];rfl) h
     ·exact skip (by unfold jH;simp only[hg,hd];rw[hb];rfl) h
     ·exact skip (by unfold jH;simp only[hg,hd];rw[hb];rfl) h
    ·rename_i hb
     exact skip (by unfold jH;simp only[hg,hd];rw[hb]) h
    ·exact h.elim
   ·exact h.elim
theorem AO {n:Nat} {c:Code} {Q:Exit→St→Prop}:∀{rs:List Nat} {s:AS} {M:AS→Prop},frA rs s M→(∀s,M s→AWp P Γ c (s.st n) Q)→AWp P Γ c (s.st n) Q
 |[],s,M,h,hM=>hM s h
 |r::rs,s,M,h,hM=>by
  unfold frA at h
  split at h
  ·rename_i e sz g es hb
   obtain⟨is,hes,h⟩:=h
   rw[o8]at h
   exact Q6 r hb (oI hes) (ILe.refl _) (Bl n r g _ s.A) rfl (AO h hM)
  ·exact h.elim
theorem Kv {n rid:Nat} {ops:Array Oper} {draw:Bool} {x:Operand} {d:Option Nat} {s:AS} {Q:Exit→AS→Prop} (hno:Iy ops draw=some (x,d))
  (h:Om n T x d s fun s=>j5 (s.B++dead (nal ops.toList.tail)) fun B=>FX s.B 0 fun id=>pR n T (pG P Γ.X) ops draw ops.toList.tail id s.A B [] fun A' B' _=>Q .normal ⟨A',B'⟩) :
  AWp P Γ (.region rid ops draw) (s.st n) fun e s'=>∃q:AS,s'=q.st n∧Q e q:=by
 unfold Iy at hno
 split at hno
 ·rename_i o rest hops
  split at hno
  ·rename_i y hg hop
   simp only[Option.some.injEq,Prod.mk.injEq]at hno
   obtain⟨rfl,rfl⟩:=hno
   unfold Om at h
   rw[NJ,G6 hT hE hG]at h
   split at h
   ·rename_i r g hx
    split at h
    ·rename_i b g' ps hb
     split at h
     ·rename_i hgg
      subst hgg
      obtain⟨h0,h1⟩:=h
      have go:∀(A:List (Nat×PV)) (B:List Blk),(j5 (B++dead (nal ops.toList.tail)) fun B'=>FX B 0 fun id=>pR n T (pG P Γ.X) ops false ops.toList.tail id A B' [] fun A' B' _=>Q .normal ⟨A',B'⟩)→dW P Γ.eqT→
        ∀a w,γ Γ ⟨toL n A,B⟩ a w→wpOps P ops (fun e a w=>∃s',(∃q:AS,s'=q.st n∧Q e q)∧γ Γ s' a w) (List.range' 1 rest.length) a w:=by
       intro A B hK hX a w hγ
       rw[lT,qc,Nat.zero_add,hops,List.tail_cons]at hK
       obtain⟨cr,es,g1,g2,A',g3,g4⟩:=l6 hT hE hG hK
       refine sS hX rest 1 _ cr _ es (fun j=>?_) g1 g2 a w (Nn (nal rest) hγ) fun a' w' hg'=>?_
       ·rw[←Array.getElem?_toList,hops,Nat.add_comm];rfl
       ·refine⟨_,⟨⟨A',(es.foldl bq ⟨toL n A,B++dead (nal rest)⟩).B⟩,?_,g4⟩,hg'⟩
        show (es.foldl bq ⟨toL n A,B++dead (nal rest)⟩)=(⟨toL n A',_⟩:St)
        rw[←g3]
      intro hX a w hγ
      refine GJ hops hg hop hx hb (fun hl a' w' hg'=>?_) (fun i p hp a' w' hg'=>?_) hγ
      ·have:=h0 hl
       rw[vE]at this
       rw[kQ]at hg'
       exact go _ _ this hX a' w' hg'
      ·have:=h1 i p hp
       rw[vE,wI]at this
       rw[kQ]at hg'
       exact go _ _ this hX a' w' hg'
     ·exact h.elim
    ·exact h.elim
   ·exact h.elim
  ·cases hno
 ·cases hno
theorem dM {n:Nat} (hm:P.follows .mixedOrders=true):∀{c:Code} {s:AS} {Q:Exit→AS→Prop},pq n T (pG P Γ.X) (fun s K=>∃s':AS,(∀a w,γ Γ (s.st n) a w→γ Γ (s'.st n) a w)∧K s') (fun c s Q=>AWp P Γ (.loop c) (s.st n) fun e s'=>∃q:AS,s'=q.st n∧Q e q) c s Q→AWp P Γ c (s.st n) fun e s'=>∃q:AS,s'=q.st n∧Q e q
 |.skip,s,Q,h=>M6 ⟨s,rfl,h⟩
 |.label _,s,Q,h=>K7 ⟨s,rfl,h⟩
 |.exit id,s,Q,h=>Nv ⟨s,rfl,h⟩
 |.ret,s,Q,h=>QB ⟨s,rfl,h⟩
 |.seq x y,s,Q,h=>by
  unfold pq at h
  refine Qq fun K hK=>?_
  refine (fun hX a w hg=>wp_mono (dM hm h hX a w hg) ?_)
  rintro e a' w' ⟨s',⟨q,rfl,h2⟩,h3⟩
  refine⟨q.st n,?_,h3⟩
  cases e with
  |normal=>exact hK _ (dM hm h2)
  |_=>exact⟨q,rfl,h2⟩
 |.cond c x y,s,Q,h=>by
  unfold pq at h
  rw[NJ,G6 hT hE hG]at h
  split at h
  ·rename_i b hb
   refine Na (s:=s.st n) hb (fun ht=>?_) (fun hf=>?_)
   ·subst ht;exact dM hm h
   ·subst hf;exact dM hm h
  ·exact h.elim
 |.block id c,s,Q,h=>by
  unfold pq at h
  refine LU (fun hX a w hg=>wp_mono (dM hm h hX a w hg) ?_)
  rintro e a' w' ⟨s',⟨q,rfl,h2⟩,h3⟩
  refine⟨q.st n,?_,h3⟩
  cases e with
  |exit id'=>
   simp only at h2
   unfold Iq
   split at h2
   ·rename_i hid
    simp only[hid,if_true]
    exact⟨q,rfl,h2⟩
   ·rename_i hid
    simp only[hid,if_false]
    exact⟨q,rfl,h2⟩
  |_=>exact⟨q,rfl,h2⟩
 |.region rid ops draw,s,Q,h=>by
  unfold pq at h
  split at h
  ·rename_i x d hno
   refine Kv hT hE hG hno h
  ·obtain⟨s1,hw1,h⟩:∃s1:AS,(∀a w,γ Γ (s.st n) a w→γ Γ (s1.st n) a w)∧frA (T.fr rid) s1 _:=by
    unfold hkA at h
    split at h
    ·obtain⟨s1,g1,g2⟩:=h
     rw[o8]at g2
     exact⟨s1,g1,g2⟩
    ·exact⟨s,fun _ _ h=>h,h⟩
   suffices hs:AWp P Γ (.region rid ops draw) (s1.st n) (fun e s'=>∃q:AS,s'=q.st n∧Q e q) from fun hX a w hg=>hs hX a w (hw1 a w hg)
   refine AO hT hE hG h fun s h=>?_
   rw[lT,qc,Nat.zero_add]at h
   obtain⟨cr,es,h1,h2,A',h3,h4⟩:=l6 hT hE hG h
   refine GQ (nal ops.toList) cr hm h1 ?_ h2 ?_
   ·cases draw
    ·unfold CQ;rfl
    ·simp only[qc,Nat.zero_add]at h4
     obtain⟨hck,_⟩:=h4
     refine RQ ?_
     simpa[dead,Pn]using hck
   ·refine⟨⟨A',(es.foldl bq ⟨toL n s.A,s.B++dead (nal ops.toList)⟩).B⟩,?_,?_⟩
    ·show (es.foldl bq ⟨toL n s.A,s.B++dead (nal ops.toList)⟩)=(⟨toL n A',_⟩:St)
     rw[←h3]
    ·cases draw
     ·exact h4
     ·simp only[qc]at h4
      exact h4.2
 |.loop c,s,Q,h=>h
 |.rangeFunc _ _ _ _,s,Q,h=>by unfold pq at h;exact h.elim
 |.scope _,s,Q,h=>by unfold pq at h;exact h.elim
 |.goto _,s,Q,h=>by unfold pq at h;exact h.elim
 |.refuse _,s,Q,h=>by unfold pq at h;exact h.elim
end
end Go.Pv
namespace Go.Pv
open Go.RowKit (Below)
set_option linter.unusedSimpArgs false
set_option linter.unusedSectionVars false
def aC (Γ:Ctx) (n:Nat) (s s':AS):Prop:=Weak Γ (s.st n) (s'.st n)
theorem aC.refl {Γ:Ctx} {n:Nat} (s:AS):aC Γ n s s:=fun _ _ h=>h
theorem aC.trans {Γ:Ctx} {n:Nat} {s t u:AS} (h:aC Γ n s t) (h':aC Γ n t u):aC Γ n s u:=fun a w hg=>h' a w (h a w hg)
def iB:Nat→List PV→List (Nat×PV)
 |_,[]=>[]
 |i,p::ps=>(i,p)::iB (i+1) ps
theorem yt:∀(l:List PV) (k t:Nat),eY (iB k l) t=if k≤t then l.getD (t - k) .any else .any
 |[],k,t=>by
  unfold iB eY
  split<;>simp
 |p::ps,k,t=>by
  unfold iB
  rw[jG,yt ps (k+1) t]
  by_cases h:k=t
  ·subst h;simp
  ·rw[if_neg h]
   by_cases h2:k+1≤t
   ·rw[if_pos h2,if_pos (by omega)]
    obtain⟨j,rfl⟩:∃j,t=k+1+j:=⟨t - (k+1),by omega⟩
    rw[show k+1+j - (k+1)=j by omega,show k+1+j - k=j+1 by omega]
    simp
   ·rw[if_neg h2,if_neg (by omega)]
theorem rF {n:Nat} {l:List PV} (h:l.length≤n):toL n (iB 0 l)=l++List.replicate (n - l.length) .any:=by
 apply List.ext_getElem?
 intro i
 unfold toL
 rw[List.getElem?_map]
 by_cases hi:i < n
 ·rw[List.getElem?_range hi]
  simp only[Option.map_some,yt,Nat.zero_le,if_true,Nat.sub_zero]
  by_cases hl:i < l.length
  ·rw[List.getElem?_append_left hl,List.getD_eq_getElem?_getD,List.getElem?_eq_getElem hl];rfl
  ·rw[List.getElem?_append_right (by omega),List.getD_eq_getElem?_getD,List.getElem?_eq_none (by omega),List.getElem?_replicate,if_pos (by omega)];rfl
 ·rw[List.getElem?_eq_none (by simpa using hi),List.getElem?_eq_none (by simp;omega)]
  rfl
theorem dI {l:List PV} {n:Nat} (h:l.length=n):toL n (iB 0 l)=l:=by
 rw[rF (by omega),h,Nat.sub_self]
 simp
inductive av (m:Nat) (p:PV):PV→Prop
 |any:av m p .any
 |eq {q:PV}:p=q→dN m q=true→av m p q
 |le {i j:IV}:p=.imm i→ILe i j→av m p (.imm j)
def wkV (m:Nat) (A:List (Nat×PV)):List (Nat×PV)→Prop
 |[]=>True
 |(t,q)::A'=>Pf A t fun p=>av m p q∧wkV m A A'
theorem M0 {m:Nat} {A:List (Nat×PV)}:∀{A':List (Nat×PV)},wkV m A A'→∀t,av m (eY A t) (eY A' t)
 |[],_,t=>by unfold eY;exact .any
 |(s,q)::A',h,t=>by
  unfold wkV at h
  rw[Bo]at h
  rw[jG]
  split
  ·rename_i e;subst e;exact h.1
  ·exact M0 h.2 t
theorem Fp {m:Nat} {f g:Nat→PV} (h:∀t,av m (f t) (g t)):∀l:List Nat,Wk m (l.map f) (l.map g)
 |[]=>.nil
 |t::l=>by
  simp only[List.map_cons]
  have ih:=Fp h l
  have h1:=h t
  generalize f t=p at h1
  generalize g t=q at h1
  cases h1 with
  |any=>exact .drop ih
  |eq e hb=>subst e;exact .keep hb ih
  |le e hl=>subst e;exact .le hl ih
theorem aC.slots {Γ:Ctx} {n:Nat} {A A':List (Nat×PV)} {B B':List Blk} (m:Nat) (hn0:Γ.n0≤m) (hB:B.take m=B') (hm:B'.length=m) (hbl:B'.all (fA m)=true) (hE:wkV m A A'):aC Γ n ⟨A,B⟩ ⟨A',B'⟩:=
 Weak.slots m hn0 hB hm hbl (Fp (M0 hE) _)
def rgA (r g g':Nat) (A:List (Nat×PV)):List (Nat×PV):=A.map fun q=>(q.1,rg r g g' q.2)
theorem Fv (r g g':Nat):∀l:List PV,rgL r g g' l=l.map (rg r g g')
 |[]=>by simp[rgL]
 |a::l=>by simp[rgL,Fv r g g' l]
theorem Pt (n r g g':Nat) (A:List (Nat×PV)):rgL r g g' (toL n A)=toL n (rgA r g g' A):=by
 rw[Fv,Bh (f:=rg r g g') (by simp[rg])]
 rfl
theorem aC.renew {Γ:Ctx} {n:Nat} {A:List (Nat×PV)} {B:List Blk} (r g':Nat) {e:TypeId} {sz g:Nat} {es:List PV} (hb:B[r]?=some (.row e sz g es)) (h0:r < Γ.n0→Γ.k0.G r < g') (hr:bM (rgL r g g') B):aC Γ n ⟨A,B⟩ ⟨rgA r g g' A,(B.map (KL r g g')).set r (.row e sz g' es)⟩:=by
 have h:=Weak.renew (Γ:=Γ) (E:=toL n A) r g' hb h0 hr
 rw[Pt]at h
 exact h
theorem aC.frozen {Γ:Ctx} {n:Nat} {A:List (Nat×PV)} {B:List Blk} (r:Nat) {e:TypeId} {sz g:Nat} {es:List PV} (is:List IV) (hb:B[r]?=some (.row e sz g es)) (hes:es=is.map .imm) {i:IV} (hi:ILe (.sl sz is) i) (hr:bM (fzL r g i) B):aC Γ n ⟨A,B⟩ ⟨fzA r g i A,(B.map (Rv r g i)).set r (.dead g)⟩:=by
 have h:=Weak.frozen (Γ:=Γ) (E:=toL n A) r is hb hes hi hr
 rw[Bl]at h
 exact h
theorem aC.row {Γ:Ctx} {n:Nat} {A:List (Nat×PV)} {B:List Blk} (r:Nat) {e:TypeId} {sz g:Nat} {es:List PV} (es':List PV) (hb:B[r]?=some (.row e sz g es)) (h:es=es'):aC Γ n ⟨A,B⟩ ⟨A,B.set r (.row e sz g es')⟩:=Weak.row r es' hb h
def mvA (i j h g':Nat) (A:List (Nat×PV)):List (Nat×PV):=A.map fun q=>(q.1,mv i j h g' q.2)
theorem Dv (i j h g':Nat):∀l:List PV,mvL i j h g' l=l.map (mv i j h g')
 |[]=>by simp[mvL]
 |a::l=>by simp[mvL,Dv i j h g' l]
theorem aC.adopt {Γ:Ctx} {n:Nat} {A:List (Nat×PV)} {B:List Blk} (i j g':Nat) {gi:Nat} {x:Blk} (hij:i≠j) (hbi:B[i]?=some (.dead gi)) (hbj:B[j]?=some x) (hn:Γ.n0≤j) (h0:i < Γ.n0→Γ.k0.G i < g') (hr:bM (mvL i j (gen x) g') B) :
  aC Γ n ⟨A,B⟩ ⟨mvA i j (gen x) g' A,((B.map (mvB i j (gen x) g')).set i (Pv.pK g' (mvB i j (gen x) g' x))).set j (.dead (gen x+1))⟩:=by
 have h:=Weak.adopt (Γ:=Γ) (E:=toL n A) i j g' hij hbi hbj hn h0 hr
 rw[Dv,Bh (f:=mv i j (gen x) g') (by simp[mv])]at h
 exact h
theorem aC.cells {Γ:Ctx} {n:Nat} {A:List (Nat×PV)} {B:List Blk} (b:Nat) {g:Nat} {cs cs':List PV} {t:Option TypeId} (hb:B[b]?=some (.box g cs t)) (h:Wk B.length cs cs'):aC Γ n ⟨A,B⟩ ⟨A,B.set b (.box g cs' t)⟩:=Weak.cells b hb h
theorem aC.spare {Γ:Ctx} {n:Nat} {A:List (Nat×PV)} {B:List Blk}:aC Γ n ⟨A,B⟩ ⟨A,B++[.dead 77]⟩:=Weak.spare
theorem aC.BU {Γ:Ctx} {n:Nat} {A:List (Nat×PV)} {B:List Blk} (b i:Nat) (e:TypeId) (sz:Nat) {g:Nat} {cs:List PV} {t:Option TypeId} (hb:B[b]?=some (.box g cs t)) (hc:cs[i]?=some (.imm .nil)):aC Γ n ⟨A,B⟩ ⟨A,(B++[Blk.row e sz 1 []]).set b (.box g (cs.set i (.row B.length 1)) t)⟩:=Weak.BU b i e sz hb hc
theorem aC.lZ {Γ:Ctx} {n:Nat} {A:List (Nat×PV)} {B:List Blk} (t:Nat) (e:TypeId) (sz:Nat) (ht:t < n) (hE:eY A t=.imm .nil):aC Γ n ⟨A,B⟩ ⟨(t,.row B.length 1)::A,B++[.row e sz 1 []]⟩:=by
 have h:=Weak.lZ (Γ:=Γ) (E:=toL n A) (B:=B) t e sz (by
  unfold toL
  rw[List.getElem?_map,List.getElem?_range ht,←hE];rfl)
 rw[JR]at h
 exact h
def dV {σ:Type} (Γ:Ctx) (n:Nat) (st:σ→AS) (I:σ→Prop) (μ:σ→Nat) (i:σ) (Q:Exit→AS→Prop):Exit→AS→Prop
 |.normal,s'=>∃i',I i'∧μ i' < μ i∧aC Γ n s' (st i')
 |e,s'=>Q e s'
def Ey (T:Tb) (n:Nat) (s:AS):List ResultVar→(List IV→Prop)→Prop
 |[],K=>K []
 |.tmp t::rs,K=>Cj n s.A t fun p=>Lu s.B p fun i=>Ey T n s rs fun is=>K (i::is)
 |.cell t ty::rs,K=>Cj n s.A t fun p=>match T.td ty,p with
  |some d,.ptr r g off=>match s.B[r]? with
   |some (.box g' cs _)=>if g=g' then (match kg cs off d.size d.agg with
    |some p=>Lu s.B p fun i=>Ey T n s rs fun is=>K (i::is)
    |none=>False) else False
   |_=>False
  |_,_=>False
theorem uY (T:Tb) (n:Nat) (s:AS):∀(rs:List ResultVar) (K:List IV→Prop),Ey T n s rs K=Ev T (s.st n) rs K
 |[],_=>rfl
 |.tmp t::rs,K=>by
  unfold Ey Ev
  rw[kr]
  simp only[uY T n s rs]
  rfl
 |.cell t ty::rs,K=>by
  unfold Ey Ev
  rw[kr]
  simp only[uY T n s rs]
  rfl
def OO (T:Tb) (n:Nat) (rs:List ResultVar) (fin:List IV→Prop):Exit→AS→Prop
 |.normal,s|.ret,s=>Ey T n s rs fin
 |_,_=>False
def OG (T:Tb) (n:Nat) (s:AS) (K:PV→Prop):ResultVar→Prop
 |.tmp t=>Cj n s.A t K
 |.cell t ty=>Cj n s.A t fun p=>match T.td ty,p with
  |some d,.ptr r g off=>match s.B[r]? with
   |some (.box g' cs _)=>if g=g' then (match kg cs off d.size d.agg with
    |some p=>K p
    |none=>False) else False
   |_=>False
  |_,_=>False
theorem Qv (T:Tb) (n:Nat) (s:AS) (K:PV→Prop) (r:ResultVar):OG T n s K r=yO T (s.st n) K r:=by
 cases r with
 |tmp t=>exact kr n s.A t K
 |cell t ty=>unfold OG yO;dsimp only;rw[kr];rfl
def Jb (T:Tb) (n:Nat) (s:AS):List ResultVar→(List PV→Prop)→Prop
 |[],K=>K []
 |r::rs,K=>OG T n s (fun p=>Jb T n s rs fun ps=>K (p::ps)) r
theorem ng (T:Tb) (n:Nat) (s:AS):∀(rs:List ResultVar) (K:List PV→Prop),Jb T n s rs K=iO T (s.st n) rs K
 |[],_=>rfl
 |r::rs,K=>by
  unfold Jb iO
  rw[Qv]
  simp only[ng T n s rs]
theorem Ai {T:Tb} {s:St} {r:ResultVar} {K K':PV→Prop} (h:∀p,K p→K' p) (hv:yO T s K r):yO T s K' r:=by
 cases r with
 |tmp t=>exact h _ hv
 |cell t ty=>
  unfold yO at hv ⊢
  simp only at hv ⊢
  split at hv
  ·split at hv
   ·split at hv
    ·rename_i hg
     rw[if_pos hg]
     split at hv
     ·exact h _ hv
     ·exact hv.elim
    ·exact hv.elim
   ·exact hv.elim
  ·exact hv.elim
theorem kU {T:Tb} {s:St}:∀{rs:List ResultVar} {K:List PV→Prop},iO T s rs K→iO T s rs fun ps=>K ps∧ps.length=rs.length
 |[],K,h=>⟨h,rfl⟩
 |r::rs,K,h=>by
  unfold iO at h ⊢
  refine Ai (fun p hp=>?_) h
  have:=kU hp
  simpa using this
theorem jO {T:Tb} {s:St}:∀{rs:List ResultVar} {K K':List PV→Prop},(∀ps,K ps→K' ps)→iO T s rs K→iO T s rs K'
 |[],K,K',hm,h=>hm _ h
 |r::rs,K,K',hm,h=>by
  unfold iO at h ⊢
  exact Ai (fun p hp=>jO (fun ps=>hm _) hp) h
def yV (T:Tb) (n:Nat) (rs:List ResultVar) (fin:AS→Prop):Exit→AS→Prop
 |.normal,s|.ret,s=>Jb T n s rs fun ps=>bC ps fun ps=>fin ⟨iB 0 ps,s.B⟩
 |_,_=>False
section
variable {P:Program} {T:Tb}
theorem sW {Γ:Ctx} (hT:∀t d,T.td t=some d→aJ P t=some d) (hE:T.eq=Γ.eqT) (hG:T.gl=Γ.X.gl) (hm:P.follows .mixedOrders=true) {n:Nat} {c:Code} {s:AS} {Q:Exit→AS→Prop} {σ:Type} (st:σ→AS) (I:σ→Prop) (μ:σ→Nat) (i0:σ) (hI:I i0) (h0:aC Γ n s (st i0))
  (round:∀i,I i→vcS n T (pG P Γ.X) (fun s K=>∃s':AS,(∀a w,γ Γ (s.st n) a w→γ Γ (s'.st n) a w)∧K s') (fun c s Q=>AWp P Γ (.loop c) (s.st n) fun e s'=>∃q:AS,s'=q.st n∧Q e q) c (st i) (dV Γ n st I μ i Q)):AWp P Γ (.loop c) (s.st n) fun e s'=>∃q:AS,s'=q.st n∧Q e q:=by
 refine KN (fun i=>(st i).st n) I μ i0 hI h0 fun i hi=>?_
 have h:=round i hi
 rw[CV]at h
 refine (fun hX a w hg=>wp_mono (dM hT hE hG hm h hX a w hg) ?_)
 rintro e a' w' ⟨s',⟨q,rfl,h2⟩,h3⟩
 refine⟨q.st n,?_,h3⟩
 cases e with
 |normal=>
  obtain⟨i',h4,h5,h6⟩:=h2
  exact⟨i',h4,h5,h6⟩
 |_=>exact⟨q,rfl,h2⟩
theorem PC.aj {X:Env} (hX:dW P T.eq) (hT:∀t d,T.td t=some d→aJ P t=some d) (hG:T.gl=X.gl) (hm:P.follows .mixedOrders=true) {f:FuncId} {fn:Func} {c:Code} {args res:List IV}
  (hf : P.funcs[f]? = some fn) (hb : fn.body = some c) (hn : (fn.name == "runtime.NumGoroutine") = false) (hle : args.length ≤ fn.ntmps)
  (h:∀(Γ:Ctx) (C:CT) (WK:AS→(AS→Prop)→Prop) (LP:Code→AS→(Exit→AS→Prop)→Prop) (fin:List IV→Prop),Γ.n0=0→(∀s s' K,aC Γ fn.ntmps s s'→K s'→WK s K)→(∀f args res,PCw P X f args res→C.1 f args res)→(∀f args Bs res Bs',PCB P X f args (Bs.map CBk.blk) res (Bs'.map CBk.blk)→C.2.1 f args Bs res Bs')→(∀f args e sz is,uM P X f args e sz is→C.2.2 f args e sz is)→
   (∀(c:Code) (s:AS) (Q:Exit→AS→Prop) (σ:Type) (st:σ→AS) (I:σ→Prop) (μ:σ→Nat) (i0:σ),I i0→aC Γ fn.ntmps s (st i0)→(∀i,I i→vcS fn.ntmps T C WK LP c (st i) (dV Γ fn.ntmps st I μ i Q))→LP c s Q)→
   (∀is,aA is res→fin is)→vcS fn.ntmps T C WK LP c ⟨iB 0 (args.map .imm),[]⟩ (OO T fn.ntmps fn.results.toList fin)):PC P X f args res:=by
 refine PC.PY hX hf hb hn fun Γ hΓ hΓ'=>?_
 have hE:T.eq=Γ.eqT:=hΓ'.1.symm
 have hG':T.gl=Γ.X.gl:=by rw[hΓ];exact hG
 have h1:=h Γ (pG P Γ.X) (fun s K=>∃s':AS,(∀a w,γ Γ (s.st fn.ntmps) a w→γ Γ (s'.st fn.ntmps) a w)∧K s') (fun c s Q=>AWp P Γ (.loop c) (s.st fn.ntmps) fun e s'=>∃q:AS,s'=q.st fn.ntmps∧Q e q) (fun is=>aA is res) hΓ'.2 (fun s s' K h h'=>⟨s',h,h'⟩) (fun f args res h=>by rw[hΓ];exact h) (fun f args Bs res Bs' h=>by rw[hΓ];exact h) (fun f args e sz is h=>by rw[hΓ];exact h)
  (fun c s Q σ st I μ i0 hI h0 hr=>sW hT hE hG' hm st I μ i0 hI h0 hr) (fun is h=>h)
 rw[CV]at h1
 have hst:(AS.mk (iB 0 (args.map PV.imm)) []).st fn.ntmps=⟨args.map .imm++List.replicate (fn.ntmps - args.length) .any,[]⟩:=by
  unfold AS.st
  rw[rF (by simpa using hle)]
  simp
 rw[←hst]
 refine (fun hX a w hg=>wp_mono (dM hT hE hG' hm h1 hX a w hg) ?_)
 rintro e a' w' ⟨s',⟨q,rfl,h2⟩,h3⟩
 refine⟨q.st fn.ntmps,?_,h3⟩
 cases e with
 |normal=>unfold OO at h2;dsimp only at h2;rw[uY]at h2;exact lU hT h2
 |ret=>unfold OO at h2;dsimp only at h2;rw[uY]at h2;exact lU hT h2
 |_=>exact h2
theorem PCB.aj {X:Env} (hX:dW P T.eq) (hT:∀t d,T.td t=some d→aJ P t=some d) (hG:T.gl=X.gl) (hm:P.follows .mixedOrders=true) {f:FuncId} {fn:Func} {c:Code} {args:List PV} {res:List PV} {B B':List Blk}
  (hf : P.funcs[f]? = some fn) (hb : fn.body = some c) (hn : (fn.name == "runtime.NumGoroutine") = false) (hlen : B'.length = B.length) (hle : args.length ≤ fn.ntmps) (hr : fn.results.toList.length = res.length)
  (h:∀(Γ:Ctx) (C:CT) (WK:AS→(AS→Prop)→Prop) (LP:Code→AS→(Exit→AS→Prop)→Prop) (fin:AS→Prop),Γ.n0=B.length→(∀r x,B[r]?=some x→Γ.k0.G r=gen x)→(∀s s' K,aC Γ fn.ntmps s s'→K s'→WK s K)→(∀f args res,PCw P X f args res→C.1 f args res)→(∀f args Bs res Bs',PCB P X f args (Bs.map CBk.blk) res (Bs'.map CBk.blk)→C.2.1 f args Bs res Bs')→(∀f args e sz is,uM P X f args e sz is→C.2.2 f args e sz is)→
   (∀(c:Code) (s:AS) (Q:Exit→AS→Prop) (σ:Type) (st:σ→AS) (I:σ→Prop) (μ:σ→Nat) (i0:σ),I i0→aC Γ fn.ntmps s (st i0)→(∀i,I i→vcS fn.ntmps T C WK LP c (st i) (dV Γ fn.ntmps st I μ i Q))→LP c s Q)→
   (∀s,aC Γ res.length s ⟨iB 0 res,B'⟩→fin s)→vcS fn.ntmps T C WK LP c ⟨iB 0 args,B⟩ (yV T fn.ntmps fn.results.toList fin)):PCB P X f args B res B':=
 PCB.Ic hX hT hf hb hn hlen fun Γ hΓX hE' hn0 hk0=>by
  have hG':T.gl=Γ.X.gl:=by rw[hG,←hΓX]
  have h1:=h Γ (pG P Γ.X) (fun s K=>∃s':AS,(∀a w,γ Γ (s.st fn.ntmps) a w→γ Γ (s'.st fn.ntmps) a w)∧K s') (fun c s Q=>AWp P Γ (.loop c) (s.st fn.ntmps) fun e s'=>∃q:AS,s'=q.st fn.ntmps∧Q e q) (fun s=>aC Γ res.length s ⟨iB 0 res,B'⟩) hn0 hk0 (fun s s' K h h'=>⟨s',h,h'⟩) (fun f args res h=>by rw[hΓX];exact h) (fun f args Bs res Bs' h=>by rw[hΓX];exact h) (fun f args e sz is h=>by rw[hΓX];exact h)
   (fun c s Q σ st I μ i0 hI h0 hr=>sW hT hE'.symm hG' hm st I μ i0 hI h0 hr) (fun s h=>h)
  rw[CV]at h1
  have hst:(AS.mk (iB 0 args) B).st fn.ntmps=⟨args++List.replicate (fn.ntmps - args.length) .any,B⟩:=by
   unfold AS.st
   rw[rF (by simpa using hle)]
   try simp
  rw[←hst]
  refine (fun hX a w hg=>wp_mono (dM hT hE'.symm hG' hm h1 hX a w hg) ?_)
  rintro e a' w' ⟨s',⟨q,rfl,h2⟩,h3⟩
  refine⟨q.st fn.ntmps,?_,h3⟩
  cases e with
  |normal=>
   unfold yV at h2
   dsimp only at h2
   rw[ng]at h2
   exact jO (fun ps hps=>by
    obtain⟨h5,h6⟩:=hps
    rw[cZ]at h5 ⊢
    have h7:Weak Γ _ _:=h5
    unfold AS.st at h7
    rw[dI (h6.trans hr),dI rfl]at h7
    exact h7) (kU h2)
  |ret=>
   unfold yV at h2
   dsimp only at h2
   rw[ng]at h2
   exact jO (fun ps hps=>by
    obtain⟨h5,h6⟩:=hps
    rw[cZ]at h5 ⊢
    have h7:Weak Γ _ _:=h5
    unfold AS.st at h7
    rw[dI (h6.trans hr),dI rfl]at h7
    exact h7) (kU h2)
  |_=>exact h2
theorem PCR.aj {X:Env} (hX:dW P T.eq) (hT:∀t d,T.td t=some d→aJ P t=some d) (hG:T.gl=X.gl) (hm:P.follows .mixedOrders=true) {f:FuncId} {fn:Func} {c:Code} {args:List IV} {e:TypeId} {sz:Nat} {is:List IV}
  (hf : P.funcs[f]? = some fn) (hb : fn.body = some c) (hn : (fn.name == "runtime.NumGoroutine") = false) (hle : args.length ≤ fn.ntmps) (hr : fn.results.toList.length = 1)
  (h:∀(Γ:Ctx) (C:CT) (WK:AS→(AS→Prop)→Prop) (LP:Code→AS→(Exit→AS→Prop)→Prop) (fin:AS→Prop),Γ.n0=0→(∀s s' K,aC Γ fn.ntmps s s'→K s'→WK s K)→(∀f args res,PCw P X f args res→C.1 f args res)→(∀f args Bs res Bs',PCB P X f args (Bs.map CBk.blk) res (Bs'.map CBk.blk)→C.2.1 f args Bs res Bs')→(∀f args e sz is,uM P X f args e sz is→C.2.2 f args e sz is)→
   (∀(c:Code) (s:AS) (Q:Exit→AS→Prop) (σ:Type) (st:σ→AS) (I:σ→Prop) (μ:σ→Nat) (i0:σ),I i0→aC Γ fn.ntmps s (st i0)→(∀i,I i→vcS fn.ntmps T C WK LP c (st i) (dV Γ fn.ntmps st I μ i Q))→LP c s Q)→
   (∀s r g B',aC Γ 1 s ⟨iB 0 [.row r g],B'⟩→B'[r]?=some (.row e sz g (is.map .imm))→fin s)→vcS fn.ntmps T C WK LP c ⟨iB 0 (args.map .imm),[]⟩ (yV T fn.ntmps fn.results.toList fin)):PCR P X f args e sz is:=
 PCR.Ic hX hT hf hb hn fun Γ hΓX hE' hn0=>by
  have hG':T.gl=Γ.X.gl:=by rw[hG,←hΓX]
  have h1:=h Γ (pG P Γ.X) (fun s K=>∃s':AS,(∀a w,γ Γ (s.st fn.ntmps) a w→γ Γ (s'.st fn.ntmps) a w)∧K s') (fun c s Q=>AWp P Γ (.loop c) (s.st fn.ntmps) fun e s'=>∃q:AS,s'=q.st fn.ntmps∧Q e q) (fun s=>∃r g B',aC Γ 1 s ⟨iB 0 [.row r g],B'⟩∧B'[r]?=some (.row e sz g (is.map .imm))) hn0 (fun s s' K h h'=>⟨s',h,h'⟩) (fun f args res h=>by rw[hΓX];exact h) (fun f args Bs res Bs' h=>by rw[hΓX];exact h) (fun f args e sz is h=>by rw[hΓX];exact h)
   (fun c s Q σ st I μ i0 hI h0 hr=>sW hT hE'.symm hG' hm st I μ i0 hI h0 hr) (fun s r g B' h h'=>⟨r,g,B',h,h'⟩)
  rw[CV]at h1
  have hst:(AS.mk (iB 0 (args.map PV.imm)) []).st fn.ntmps=⟨(args.map PV.imm)++List.replicate (fn.ntmps - args.length) .any,[]⟩:=by
   unfold AS.st
   rw[rF (by simpa using hle)]
   try simp
  rw[←hst]
  refine (fun hX a w hg=>wp_mono (dM hT hE'.symm hG' hm h1 hX a w hg) ?_)
  rintro e a' w' ⟨s',⟨q,rfl,h2⟩,h3⟩
  refine⟨q.st fn.ntmps,?_,h3⟩
  cases e with
  |normal=>
   unfold yV at h2
   dsimp only at h2
   rw[ng]at h2
   exact jO (fun ps hps=>by
    obtain⟨h5,h6⟩:=hps
    rw[cZ]at h5 ⊢
    obtain⟨r,g,B',h7,h8⟩:=h5
    refine⟨r,g,B',?_,h8⟩
    have h9:Weak Γ _ _:=h7
    unfold AS.st at h9
    rw[dI (h6.trans hr),dI (l:=[PV.row r g]) (n:=1) rfl]at h9
    exact h9) (kU h2)
  |ret=>
   unfold yV at h2
   dsimp only at h2
   rw[ng]at h2
   exact jO (fun ps hps=>by
    obtain⟨h5,h6⟩:=hps
    rw[cZ]at h5 ⊢
    obtain⟨r,g,B',h7,h8⟩:=h5
    refine⟨r,g,B',?_,h8⟩
    have h9:Weak Γ _ _:=h7
    unfold AS.st at h9
    rw[dI (h6.trans hr),dI (l:=[PV.row r g]) (n:=1) rfl]at h9
    exact h9) (kU h2)
  |_=>exact h2
end
end Go.Pv
namespace Go.Pv
open Go.RowKit (Below)
theorem Idx.hyp {α:Type} {f:α→IV} {cells:α→List IV} (hc:∀x,jD (f x)=cells x) {l:List α} {k:Nat} {x:α} (hx:l[k]?=some x) {K:List IV→Prop} (h:K (cells x)):Idx (k:Int) (l.map f) K:=
 .mk k (f x) _ rfl (by rw[List.getElem?_map,hx];rfl) (hc _) h
theorem aC.frz {Γ:Ctx} {n:Nat} {A:List (Nat×PV)} {B:List Blk} (r:Nat) {e:TypeId} {sz g:Nat} {es:List PV} (is:List IV) (hb:B[r]?=some (.row e sz g es)) (hes:es=is.map .imm) {i:IV} (hi:ILe (.sl sz is) i):aC Γ n ⟨A,B⟩ ⟨fzA r g i A,(B.map (fzB r g i)).set r (.dead g)⟩:=by
 have h:=Weak.frz (Γ:=Γ) (E:=toL n A) r hb hes hi rfl rfl
 rw[Bl]at h
 exact h
theorem PC.le {P:Program} {X:Env} {f:FuncId} {args res res':List IV} (h:PC P X f args res) (hl:aA res res'):PC P X f args res':=
 ⟨h.1,fun Q w vs hQ hg hX hvs=>(h.2 Q w vs hQ hg hX hvs).mono fun _ _ ⟨v,Q',h1,h2,h3,h4,h5⟩=>⟨v,Q',h1,h2,h3,h4,aA.res hl h5⟩⟩
theorem Fork.T {c A B:Prop} (h:¬c→False) (k:A):Fork c (fun _=>A) (fun _=>B):=.mk (fun _=>k) (fun hc=>(h hc).elim)
theorem Fork.F {c A B:Prop} (h:c→False) (k:B):Fork c (fun _=>A) (fun _=>B):=.mk (fun hc=>(h hc).elim) (fun _=>k)
theorem av.int {m:Nat} {k:IntKind} {a b:Int} (h:a=b):av m (.imm (.int k a)) (.imm (.int k b)):=.eq (by rw[h]) rfl
theorem aC.qD {Γ:Ctx} {n:Nat} {A:List (Nat×PV)} {B:List Blk} (r:Nat) {kk:MK} {g:Nat} {ps:List (IV×IV)} (ps':List (IV×IV)) (hb:B[r]?=some (.map kk g ps)) (h:ps=ps'):aC Γ n ⟨A,B⟩ ⟨A,B.set r (.map kk g ps')⟩:=by
 subst h
 have hr:r < B.length:=(List.getElem?_eq_some_iff.1 hb).1
 have:B.set r (.map kk g ps)=B:=by
  apply List.ext_getElem?
  intro i
  by_cases hi:i=r
  ·subst hi;rw[List.getElem?_set_self hr,hb]
  ·rw[List.getElem?_set_ne (Ne.symm hi)]
 rw[this]
 exact aC.refl _
end Go.Pv
namespace Go.Pv
open Go.RowKit (Below)
end Go.Pv
namespace Go.Pv
open Go
def MF {α:Type}:Result α→World
 |.ok _ w=>w
 |.halt _ w=>w
theorem Hz {α:Type}:∀(a:Ask α) (w:World),w.drawn≤(w.ask a).2.drawn
 |.done a,w=>by simp[World.ask]
 |.ask what range k,w=>by
  unfold World.ask
  dsimp only
  split
  ·exact Hz (k 0) w
  ·exact Nat.le_trans (Nat.le_succ _) (Hz _ { w with drawn:=w.drawn+1 })
theorem OE (c:Sys) (w:World):w.drawn≤(w.sys c).2.drawn:=by
 unfold World.sys
 have h:=Hz (Kernel.perform c w.os) w
 split
 ·exact Nat.le_refl _
 ·rename_i e
  rw[e]at h
  exact h
theorem Ba {p:Program} {w w':World} {at_:Addr} {u:TypeId} {k:Addr} {v:Value} {b:Bool} {l:List Addr} (h:w.viewStore p at_ u k v b=.ok (w',l)):w'.drawn=w.drawn:=by
 unfold World.viewStore at h
 simp only[bind,Except.bind,pure,Except.pure]at h
 repeat' (split at h)
 all_goals first|cases h;rfl|cases h
theorem D7 {p:Program} {w w':World} {a:Addr} {v:Value} {b:Bool} {l:List Addr} (h:w.farStore p a v b=.ok (w',l)):w'.drawn=w.drawn:=by
 unfold World.farStore at h
 split at h
 ·split at h
  ·rename_i e
   cases h
   exact Ba e
  ·cases h
 ·cases h
theorem dJ {α:Type} (p:Program):∀(s:Sem α) (w:World),w.drawn≤(MF (s.run p w)).drawn
 |.pure a,w=>by simp[Sem.run,MF]
 |.load m a k,w=>by
  unfold Sem.run
  split
  ·exact dJ p _ w
  ·split
   ·exact dJ p _ w
   ·exact Nat.le_refl _
 |.store m a v k,w=>by
  have hk:=dJ p k
  cases v
  all_goals simp only[Sem.run]
  all_goals first
   |exact Nat.le_refl _
   |skip
  all_goals (
   cases w.cell? a with
   |some x=>
    dsimp only
    split
    ·exact Nat.le_refl _
    ·exact (show (w.setCell a _).drawn≤_ from hk (w.setCell a _))
   |none=>
    dsimp only
    split
    ·rename_i e
     rw[←D7 e]
     exact hk _
    ·exact Nat.le_refl _)
 |.new o k,w=>by
  unfold Sem.run
  exact dJ p (k w.heap.size) { w with heap:=w.heap.push o }
 |.shape r k,w=>by
  unfold Sem.run
  exact dJ p _ w
 |.freeze a n k,w=>by
  unfold Sem.run
  refine Nat.le_trans ?_ (dJ p k _)
  unfold World.freeze
  split<;>exact Nat.le_refl _
 |.frozen a k,w=>by
  unfold Sem.run
  exact dJ p _ w
 |.getObj r k,w=>by
  unfold Sem.run
  split
  ·exact Nat.le_refl _
  ·exact dJ p _ w
  ·exact Nat.le_refl _
 |.setObj r o k,w=>by
  unfold Sem.run
  split
  ·exact Nat.le_refl _
  ·exact dJ p k { w with heap:=w.heap.setIfInBounds r o }
  ·exact Nat.le_refl _
 |.choose q k,w=>by
  unfold Sem.run
  split
  ·exact dJ p _ w
  ·exact Nat.le_trans (Nat.le_succ _) (dJ p _ { w with drawn:=w.drawn+1 })
 |.sys c k,w=>by
  unfold Sem.run
  exact Nat.le_trans (OE c w) (dJ p _ _)
 |.program k,w=>by
  unfold Sem.run
  exact dJ p _ w
 |.mark m k,w=>by
  unfold Sem.run
  exact dJ p k w
 |.halt h,w=>by simp[Sem.run,MF]
theorem jk {α:Type} (p:Program) (s:Sem α) (w:World) (es:Array Event):w.drawn≤(MF (s.runT p w es).1).drawn:=by
 rw[Sem.runT_fst];exact dJ p s w
theorem fH {α:Type} {p:Program} {s:Sem α} {w w':World} {a:α} (h:s.run p w=.ok a w'):w.drawn≤w'.drawn:=by
 have:=dJ p s w
 rwa [h]at this
theorem run_halt {α:Type} {p:Program} {s:Sem α} {w w':World} {a:Halt} (h:s.run p w=.halt a w'):w.drawn≤w'.drawn:=by
 have:=dJ p s w
 rwa [h]at this
theorem QJ {α:Type} {p:Program} {s:Sem α} {w w':World} {a:α} {es es':Array Event} (h:s.runT p w es=(.ok a w',es')):w.drawn≤w'.drawn:=by
 have:=jk p s w es
 rwa [h]at this
theorem KJ {α:Type} {p:Program} {s:Sem α} {w w':World} {a:Halt} {es es':Array Event} (h:s.runT p w es=(.halt a w',es')):w.drawn≤w'.drawn:=by
 have:=jk p s w es
 rwa [h]at this
theorem Bt {α:Type} {p:Program} {s:Sem α} {w w':World} {a:α} {es:Array Event} (h:(s.runT p w es).1=.ok a w'):w.drawn≤w'.drawn:=by
 have:=jk p s w es
 rwa [h]at this
theorem yD {α:Type} {p:Program} {s:Sem α} {w w':World} {a:Halt} {es:Array Event} (h:(s.runT p w es).1=.halt a w'):w.drawn≤w'.drawn:=by
 have:=jk p s w es
 rwa [h]at this
def gsW:GStep→World
 |.go _ w _=>w
 |.comm _ _ _ _ w _=>w
 |.spawn _ _ w _=>w
 |.count _ w _=>w
 |.timer _ _ w _=>w
 |.alone _ _ w _=>w
 |.newcoro _ _ _ w _=>w
 |.coroswitch _ _ _ w _=>w
 |.collect _ w _=>w
 |.watch _ w _=>w
 |.ended _ w _=>w
theorem KV (es:Array Event) (s:GStep):gsW (s.after es)=gsW s:=by cases s<;>rfl
def Up (w:World) (s:GStep):Prop:=w.drawn≤(gsW s).drawn
theorem Up.after {w:World} {s:GStep} {es:Array Event} (h:Up w s):Up w (s.after es):=by unfold Up;rw[KV];exact h
theorem Up.le {w w':World} {s:GStep} (h:w.drawn≤w'.drawn) (hs:Up w' s):Up w s:=Nat.le_trans h hs
theorem Up.ite {w:World} {c:Prop} [Decidable c] {a b:GStep} (ha:Up w a) (hb:Up w b):Up w (if c then a else b):=by split<;>assumption
theorem GV (w:World) (fd:Nat) (text:ByteArray) (o:Outcome):Up w (endWith w fd text o):=by
 unfold endWith
 have h:=OE (.write fd text) w
 dsimp only
 split
 all_goals (rename_i e;rw[e]at h)
 ·split<;>exact h
 ·exact h
 ·exact h
theorem Mg (fr:Frame) (a:List ByteArray) (m:String) (b:Bool) (w:World):Up w (dieOf fr a m b w):=Nat.le_refl _
theorem iw (fr:Frame) (m:String) (w:World):Up w (endThrow fr m w):=Nat.le_refl _
theorem nC (p:Program) (fr:Frame) (v:Value) (w:World):Up w (endPrinting p fr v w):=by
 unfold endPrinting
 dsimp only
 split
 ·exact iw ..
 ·exact Nat.le_refl _
theorem tZ (p:Program) (fr:Frame) (cs:List Frame) (d:Option Dying) (m:String) (w:World):Up w (endFatal p fr cs d m w):=by
 unfold endFatal
 dsimp only
 split
 ·rename_i e
  exact (Mg ..).le (fH e)
 ·rename_i e
  exact run_halt e
 ·rename_i e
  exact run_halt e
theorem GA (p:Program) (fr:Frame) (d:Dying) (f:Fatal) (w:World):Up w (writeOn p fr d f w):=by
 unfold writeOn
 dsimp only
 split
 ·exact Nat.le_refl _
 ·split
  all_goals (rename_i e;first|exact QJ e|exact KJ e)
theorem Sb (p:Program) (fr:Frame) (d:Dying) (w:World):Up w (die p fr d w):=by
 unfold die
 split
 ·exact GA ..
 ·split
  ·split
   ·exact Nat.le_refl _
   ·exact GV ..
  ·dsimp only
   split
   ·exact Nat.le_refl _
   ·split
    ·rename_i e;exact fH e
    ·rename_i e;exact run_halt e
   ·refine Up.after ?_
    rename_i t recv name _
    have h:=jk p (invoke (.fn (.method name) #[]) #[.iface t recv]) w #[]
    split
    all_goals (try (rename_i e;rw[e]at h))
    all_goals first|exact h|exact Up.le h (nC p fr _ _)|exact Nat.le_refl _
   ·exact Nat.le_refl _
theorem jX (p:Program) (main:Bool) (fr:Frame) (callers:List Frame) (dying:Option Dying) (v:Value) (w:World):Up w (doReturn p main fr callers dying v w):=by
 unfold doReturn
 repeat' (first|exact Nat.le_refl _|split)
theorem uI (p:Program) (fr:Frame) (callers:List Frame) (dying:Option Dying) (d:Deferred) (w:World):Up w (callDeferred p fr callers dying d w):=by
 unfold callDeferred
 refine Up.ite (Nat.le_refl _) ?_
 ·have h:=jk p (invoke d.target d.args) w #[]
  generalize (invoke d.target d.args).runT p w #[]=re at h
  obtain⟨r,es⟩:=re
  dsimp only at h ⊢
  refine Up.after ?_
  split
  all_goals first
   |exact h
   |exact Up.le h (tZ ..)
   |exact Up.le h (iw ..)
   |(split<;>exact h)
theorem KI (p:Program) (main:Bool) (fr:Frame) (callers:List Frame) (dying:Option Dying) (w:World):Up w (unwind p main fr callers dying w):=by
 unfold unwind
 split
 ·rename_i block _ ds _
  have h:=jk p (Instr.takeDeferred block) w #[]
  generalize (Instr.takeDeferred block).runT p w #[]=re at h
  obtain⟨r,es⟩:=re
  dsimp only at h ⊢
  refine Up.after ?_
  split<;>exact h
 ·exact uI ..
 ·split
  ·exact Nat.le_refl _
  ·split
   ·exact Nat.le_refl _
   ·split
    ·exact Nat.le_refl _
    ·split
     ·split
      ·exact Nat.le_refl _
      ·split
       all_goals (rename_i e;first|exact fH e|exact run_halt e)
     ·split
      ·exact nC ..
      ·exact Nat.le_refl _
  ·split
   ·exact jX ..
   ·rename_i fn _
    have h:=jk p (results fn fr.tmps) w #[]
    generalize (results fn fr.tmps).runT p w #[]=re at h
    obtain⟨r,es⟩:=re
    dsimp only at h ⊢
    refine Up.after ?_
    split
    ·exact Up.le h (jX ..)
    ·exact h
    ·exact h
theorem L6 (p:Program) (fr:Frame) (callers:List Frame) (dying:Option Dying) (g:Nat) (w:World):Up w (early p fr callers dying g w):=by
 unfold early
 have hn:∀w:World,Up w (match w.heap[g]? with
  |some (.pending c elem)=>GStep.go { frame:=fr,callers,status:=.running,dying } { w with heap:=w.heap.setIfInBounds g (.cells c elem) }
  | _ => .ended (.stuck "early: the variable does not wait" (fr.pos p)) w) := fun w => by
  split<;>exact Nat.le_refl _
 dsimp only
 split
 ·exact hn w
 ·split
  ·exact Nat.le_refl _
  ·split
   ·exact hn w
   ·split
    ·exact hn w
    ·split
     ·exact Nat.le_refl _
     ·exact Nat.le_refl _
     ·exact Nat.le_refl _
     ·exact hn w
     ·split
      ·exact Nat.le_refl _
      ·split
       ·exact hn w
       ·have h:=dJ p (choose (.early g)) w
        generalize (choose (.early g)).run p w=r at h
        split
        ·exact Up.le h (hn _)
        ·exact h
        ·exact h
theorem rz (p:Program) (fr:Frame) (callers:List Frame) (dying:Option Dying) (s:Sem Next) (w:World) (listen:Bool):Up w (stepG.apply p listen fr callers dying s w):=by
 unfold stepG.apply
 have h:w.drawn≤(MF (if listen=true then s.runT p w #[] else (s.run p w,#[])).1).drawn:=by
  split
  ·exact jk ..
  ·exact dJ ..
 generalize (if listen=true then s.runT p w #[] else (s.run p w,#[]))=re at h
 obtain⟨r,es⟩:=re
 dsimp only at h ⊢
 refine Up.after ?_
 split
 all_goals first
  |exact h
  |exact Up.le h (tZ ..)
  |exact Up.le h (iw ..)
  |exact Up.le h (L6 ..)
  |exact Up.le h (Up.ite (iw ..) (Nat.le_refl _))
  |(split<;>first|exact h|exact Up.le h (iw ..))
theorem Pq (p:Program) (fr:Frame) (callers:List Frame) (dying:Option Dying) (w:World) (listen:Bool):Up w (stepG.oper p listen fr callers dying w):=by
 unfold stepG.oper
 split
 ·exact Nat.le_refl _
 ·split<;>exact rz ..
theorem PG (p:Program) (main:Bool) (fr:Frame) (callers:List Frame) (dying:Option Dying) (w:World) (listen:Bool):Up w (stepG.exec p main listen fr callers dying w):=by
 unfold stepG.exec
 dsimp only
 have hel:∀(o:Option (List Item)) (x:GStep) (f:List Item→GStep),Up w x→(∀l,Up w (f l))→Up w (o.elim x f):=fun o x f hx hf=>by
  cases o with
  |none=>exact hx
  |some l=>exact hf l
 split
 all_goals first
  |exact Nat.le_refl _
  |exact rz ..
  |exact Up.ite (Pq ..) (Nat.le_refl _)
  |(split;exact Up.ite (Nat.le_refl _) (Nat.le_refl _);refine Up.after ?_;split;(rename_i e;exact Up.le (Bt e) (jX ..));(rename_i e;exact yD e))
  |(refine hel _ _ _ ?_ (fun _=>Nat.le_refl _);(split;exact Up.ite (Nat.le_refl _) (Nat.le_refl _);refine Up.after ?_;split;(rename_i e;exact Up.le (Bt e) (jX ..));(rename_i e;exact yD e)))
  |(refine Up.ite (Nat.le_refl _) ?_;split<;>(rename_i e;first|exact fH e|exact run_halt e))
  |(split<;>exact Nat.le_refl _)
  |(refine Up.after ?_;split<;>(rename_i e;first|exact Up.le (Bt e) (rz ..)|exact Bt e|exact yD e))
  |skip
 ·rename_i row _ _ _
  cases Extern.next row with
  |none=>exact Nat.le_refl _
  |some e=>exact rz ..
theorem Nj (p:Program) (main:Bool) (g:Goroutine) (w:World) (listen:Bool):Up w (stepG p main g w listen):=by
 unfold stepG
 dsimp only
 split
 ·exact Sb ..
 ·exact PG ..
 ·exact KI ..
def UpS (w:World):Stepped→Prop
 |.next m=>w.drawn≤m.world.drawn
 |.ended _ _=>True
theorem UpS.le {w w':World} {s:Stepped} (h:w.drawn≤w'.drawn) (hs:UpS w' s):UpS w s:=by
 cases s with
 |next m=>exact Nat.le_trans h hs
 |ended o w=>trivial
theorem wJ (p:Program) (rest:Rest) (gs:Array Goroutine) (i:Nat) (g:Goroutine) (cases:Array CommCase) (blocking:Bool) (shape:CommShape) (w:World):UpS w (communicate p rest gs i g cases blocking shape w).1:=by
 unfold communicate
 dsimp only
 split
 ·trivial
 ·split
  ·split
   ·unfold waitingAt
    split
    ·rename_i e
     split at e
     ·split at e
      ·cases e;exact Nat.le_refl _
      ·cases e
     ·cases e;exact Nat.le_refl _
    ·trivial
   ·exact Nat.le_refl _
  ·split
   ·trivial
   ·rename_i e
    have h:=fH e
    split
    ·split
     ·rename_i e2
      exact Nat.le_trans h (run_halt e2)
     ·trivial
    ·exact h
    ·exact h
    ·split
     ·exact h
     ·split
      ·rename_i e2
       have h2:=fH e2
       exact Nat.le_trans h h2
      ·trivial
    ·exact h
    ·exact h
    ·trivial
theorem zL (m:Machine) (k:Nat) (t:Timer) (a b:Nat):(retime m k t a b).2.world.drawn=m.world.drawn:=by
 unfold retime
 dsimp only
 cases t.chan with
 |none=>rfl
 |some c=>
  dsimp only
  unfold drain
  split<;>rfl
theorem Hg {m m':Machine} {op:TimerOp} {v:Value} (h:timerOp m op=.ok (v,m')):m'.world.drawn=m.world.drawn:=by
 unfold timerOp at h
 have hn:∀(m0:Machine) (var:Addr) (f:Nat→Timer→Value×Machine),(∀k t,(f k t).2.world.drawn=m.world.drawn)→timerOp.named m0 var f=.ok (v,m')→m'.world.drawn=m.world.drawn:=fun m0 var f hf h=>by
  unfold timerOp.named at h
  split at h
  ·rename_i k _
   have:=hf k (m0.rest.timers.getD k default)
   injection h with h
   rw[h]at this
   exact this
  ·cases h
 split at h
 ·split at h
  ·cases h;rfl
  ·split at h
   ·split at h
    ·cases h
    ·cases h;rfl
   ·cases h
 ·exact hn _ _ _ (fun k t=>zL ..) h
 ·split at h
  ·rename_i m1 e
   refine hn _ _ _ (fun k t=>(zL ..).trans ?_) h
   unfold timerOp.opened at e
   split at e
   ·split at e
    ·cases e;rfl
    ·cases e
   ·cases e;rfl
  ·cases h
 ·cases h;rfl
theorem MI (p:Program) (m:Machine) (k:Nat):UpS m.world (serve p m k):=by
 unfold serve
 split
 ·trivial
 ·exact Nat.le_refl _
 ·dsimp only
  split
  ·trivial
  ·exact Nat.le_refl _
theorem Jr (p:Program) (gs:Array Goroutine) (rest:Rest) (w:World):UpS w (Go.look p gs rest w):=by
 unfold Go.look
 split
 ·dsimp only
  split
  ·trivial
  ·split
   ·trivial
   ·split
    ·rename_i e
     have h2:=fH e
     exact h2
    ·trivial
    ·trivial
 ·trivial
theorem Ck (p:Program) (m:Machine) (i:Nat) (listen:Bool):UpS m.world (Go.runT p m i listen).1:=by
 unfold Go.runT
 dsimp only
 generalize m.gs.swapAt! i _=sw
 obtain⟨g,gs⟩:=sw
 dsimp only
 have h:=Nj p (i == 0) g m.world listen
 generalize stepG p (i == 0) g m.world listen=s at h
 unfold Up at h
 split
 ·trivial
 ·exact UpS.le h (wJ ..)
 ·exact h
 ·exact h
 ·dsimp only
  split
  ·trivial
  ·exact h
 ·exact h
 ·exact UpS.le h (Jr ..)
 ·exact h
 ·exact h
 ·dsimp only
  split
  ·exact h
  ·split
   ·rename_i e
    unfold endThrow dieOf at e
    cases e
    exact h
   ·trivial
  ·trivial
 ·dsimp only
  split
  ·rename_i e
   have:=Hg e
   exact Nat.le_trans h (Nat.le_of_eq this.symm)
  ·split
   ·rename_i e
    unfold endThrow dieOf at e
    cases e
    exact h
   ·trivial
  ·trivial
  ·trivial
def UpM (w:World):Move→Prop
 |.goroutine m _=>w.drawn≤m.world.drawn
 |.machine s _=>UpS w s
theorem UpM.le {w w':World} {s:Move} (h:w.drawn≤w'.drawn) (hs:UpM w' s):UpM w s:=by
 cases s with
 |goroutine m i=>exact Nat.le_trans h hs
 |machine s o=>exact UpS.le h hs
theorem Cw (p:Program) (m:Machine) (rs:List Nat):UpM m.world (match (choose (.sched rs.length)).run p m.world with
   | .halt _ w => Move.machine (.ended (.stuck "sched" "") w)
   |.ok k world=>
    if rs.length≤1 then .goroutine { m with world } (rs.getD k 0) else
    match (choose (.extern "sched.slice" 65536)).run p world with
    | .halt _ w => .machine (.ended (.stuck "sched.slice" "") w)
    |.ok n world=>.goroutine { m with world,rest:={ m.rest with slice:=if n=0 then none else some (rs.getD k 0,n) } } (rs.getD k 0)):=by
 split
 ·trivial
 ·rename_i e
  have h:=fH e
  split
  ·exact h
  ·split
   ·trivial
   ·rename_i e2
    have h2:=fH e2
    exact Nat.le_trans h h2
theorem wQ (p:Program) (m:Machine):UpM m.world (askOn p m):=by
 unfold askOn
 dsimp only
 split
 ·trivial
 ·rename_i k world e
  have h:=fH e
  split
  ·refine UpS.le (w':=world) h ?_
   exact MI p { m with world } _
  ·split
   ·split
    ·exact h
    ·split
     ·exact h
     ·split<;>trivial
   ·split
    ·exact UpM.le (w':=world) h (Cw p { m with world } _)
    ·split
     ·trivial
     ·rename_i w2 e2
      have h2:=fH e2
      exact UpM.le (w':=w2) (Nat.le_trans h h2) (Cw p { m with world:=w2 } _)
     ·rename_i w2 e2
      have h2:=fH e2
      exact Nat.le_trans h h2
     ·rename_i w2 e2
      have h2:=fH e2
      exact UpM.le (w':=w2) (Nat.le_trans h h2) (Cw p (({ m with world:=w2 }:Machine).advanceTo _) _)
theorem OQ (p:Program) (m:Machine):UpM m.world (ask p m):=by
 unfold ask
 split
 ·split
  ·trivial
  ·rename_i world e
   have h:=fH e
   have hl:=Jr p m.gs m.rest world
   split
   ·rename_i m2 e2
    rw[e2]at hl
    exact UpM.le (Nat.le_trans h hl) (wQ p m2)
   ·rename_i hne
    generalize Go.look p m.gs m.rest world=s at hl hne
    cases s with
    |next m2=>exact absurd rfl (hne m2)
    |ended o w=>trivial
  ·rename_i world _ e
   have h:=fH e
   exact UpM.le (w':=world) h (wQ p { m with world })
 ·exact wQ p m
theorem QI (p:Program) (m:Machine):UpM m.world (move p m):=by
 unfold move
 split
 ·split
  ·exact Nat.le_refl _
  ·trivial
 ·split
  ·split
   ·exact Nat.le_refl _
   ·exact OQ p { m with rest:={ m.rest with slice:=none } }
  ·exact OQ p m
theorem Q7 (p:Program) (m:Machine):UpS m.world (step p m):=by
 unfold step stepT
 have h:=QI p m
 generalize move p m=mv at h
 cases mv with
 |goroutine m2 i=>exact UpS.le h (Ck p m2 i true)
 |machine s o=>exact h
theorem JO (p:Program):∀(n:Nat) (m m':Machine),runN p n m=.next m'→m.world.drawn≤m'.world.drawn
 |0,m,m',h=>by
  cases h
  exact Nat.le_refl _
 |n+1,m,m',h=>by
  unfold runN at h
  have hs:=Q7 p m
  generalize step p m=s at h hs
  cases s with
  |next m2=>exact Nat.le_trans hs (JO p n m2 m' h)
  |ended o w=>cases h
theorem Calls.drawn {P:Program} {f:FuncId} {args:Array Value} {w:World} {R:Ending→World→Prop} (h:Calls P f args w R):Calls P f args w fun e w'=>R e w'∧((∃v,e=.returned v)→w.drawn≤w'.drawn):=by
 intro cs
 obtain⟨e,w',fr,hR,hc,hf,hl⟩:=h cs
 refine⟨e,w',fr,⟨hR,?_⟩,hc,hf,hl⟩
 rintro⟨v,rfl⟩
 obtain⟨n,hn⟩:=hc
 exact JO P n _ _ hn
end Go.Pv
namespace Go.Pv
section
variable {κ ν:Type} [DecidableEq κ] (kv:κ→IV) (vv:ν→IV)
def mkL (m:List (κ×ν)):List (IV×IV):=m.map fun p=>(kv p.1,vv p.2)
def aP:List (κ×ν)→κ→Option ν
 |[],_=>none
 |p::m,k=>if p.1=k then some p.2 else aP m k
def cB:List (κ×ν)→κ→ν→List (κ×ν)
 |[],k,v=>[(k,v)]
 |p::m,k,v=>if p.1=k then (p.1,v)::m else p::cB m k v
variable {kv vv} (he:∀a b,eqI (kv a) (kv b)=decide (a=b))
include he
theorem mX (k:κ):∀m:List (κ×ν),fB (mkL kv vv m) (kv k)=(aP m k).map vv
 |[]=>rfl
 |p::m=>by
  show (if eqI (kv p.1) (kv k)=true then _ else fB (mkL kv vv m) (kv k))=_
  rw[he,aP]
  by_cases h:p.1=k
  ·rw[decide_eq_true h,if_pos rfl,if_pos h];rfl
  ·rw[decide_eq_false h,if_neg (by simp),if_neg h];exact mX k m
theorem lN (k:κ) (v:ν):∀m:List (κ×ν),dS (mkL kv vv m) (kv k) (vv v)=mkL kv vv (cB m k v)
 |[]=>rfl
 |p::m=>by
  show (if eqI (kv p.1) (kv k)=true then _ else _::dS (mkL kv vv m) (kv k) (vv v))=_
  rw[he,cB]
  by_cases h:p.1=k
  ·rw[decide_eq_true h,if_pos rfl,if_pos h];rfl
  ·rw[decide_eq_false h,if_neg (by simp),if_neg h,lN k v m];rfl
omit he
theorem eX (k k':κ) (v:ν):∀m:List (κ×ν),aP (cB m k v) k'=if k=k' then some v else aP m k'
 |[]=>rfl
 |p::m=>by
  rw[cB]
  by_cases h:p.1=k
  ·rw[if_pos h,aP,aP,←h]
   by_cases h2:p.1=k'
   ·rw[if_pos h2];exact (if_pos h2).symm
   ·rw[if_neg h2,if_neg h2];exact (if_neg h2).symm
  ·rw[if_neg h,aP,aP,eX k k' v m]
   by_cases h2:p.1=k'
   ·rw[if_pos h2,if_pos h2,if_neg (fun e=>h (by rw[h2,e]))]
   ·rw[if_neg h2,if_neg h2]
theorem qy {k:κ} {v:ν}:∀{m:List (κ×ν)},aP m k=none→cB m k v=m++[(k,v)]
 |[],_=>rfl
 |p::m,h=>by
  rw[aP]at h
  split at h
  ·cases h
  ·rename_i hne
   rw[cB,if_neg hne,qy h];rfl
theorem zA {k:κ} {v:ν}:∀{m:List (κ×ν)},aP m k=some v→(k,v)∈m
 |[],h=>by cases h
 |p::m,h=>by
  rw[aP]at h
  split at h
  ·rename_i e
   injection h with h
   rw[←h,←e]
   exact List.mem_cons_self
  ·exact List.mem_cons_of_mem _ (zA h)
theorem fI {k:κ}:∀{m:List (κ×ν)},aP m k=none↔k∉m.map Prod.fst
 |[]=>by simp[aP]
 |p::m=>by
  rw[aP]
  by_cases h:p.1=k
  ·simp[h]
  ·rw[if_neg h,fI (m:=m)]
   simp only[List.map_cons,List.mem_cons,not_or]
   exact⟨fun h2=>⟨fun e=>h e.symm,h2⟩,fun h2=>h2.2⟩
def MP (kv:κ→IV) (vv:ν→IV) (f:Bool) (q:κ×ν) (R:List (κ×ν)):List (IV×IV):=match f with
 |false=>mkL kv vv R
 |true=>(kv q.1,vv q.2)::mkL kv vv R
omit [DecidableEq κ] in
theorem yX (f:Bool) (q:κ×ν) (R:List (κ×ν)):um f (MP kv vv f q R)=mkL kv vv R:=by cases f<;>rfl
omit [DecidableEq κ] in
theorem sM:∀(R:List (κ×ν)) (i:Nat),(mkL kv vv R).eraseIdx i=mkL kv vv (R.eraseIdx i)
 |[],_=>rfl
 |_::_,0=>rfl
 |p::R,i+1=>by
  show (kv p.1,vv p.2)::(mkL kv vv R).eraseIdx i=_::mkL kv vv (R.eraseIdx i)
  rw[sM R i]
omit [DecidableEq κ] in
theorem Ed {R:List (κ×ν)} (h:mkL kv vv R=[]):R=[]:=by
 cases R with
 |nil=>rfl
 |cons _ _=>cases h
omit [DecidableEq κ] in
theorem MW {R:List (κ×ν)} {i:Nat} {p:IV×IV} (h:(mkL kv vv R)[i]?=some p):∃q,R[i]?=some q∧p=(kv q.1,vv q.2):=by
 unfold mkL at h
 rw[List.getElem?_map]at h
 cases hq:R[i]? with
 |none=>rw[hq]at h;cases h
 |some q=>rw[hq]at h;exact⟨q,rfl,(Option.some.inj h).symm⟩
end
theorem nY {α:Type}:∀{l:List α} {i:Nat} {x:α},l[i]?=some x→(x::l.eraseIdx i).Perm l
 |[],_,_,h=>by simp at h
 |a::l,0,x,h=>by
  obtain rfl:a=x:=by simpa using h
  exact List.Perm.refl _
 |a::l,i+1,x,h=>by
  have:=nY (l:=l) (i:=i) (by simpa using h)
  exact (List.Perm.swap a x _).trans (this.cons a)
def kv2 (k:Int×Int):IV:=.agg [.int .i64 k.1,.int .i64 k.2]
theorem I7 (a b:Int×Int):eqI (kv2 a) (kv2 b)=decide (a=b):=by
 obtain⟨a1,a2⟩:=a
 obtain⟨b1,b2⟩:=b
 show (decide (a1=b1)&&(decide (a2=b2)&&true))=_
 rw[Bool.and_true,Bool.eq_iff_iff]
 simp
end Go.Pv
namespace Go.Pv
theorem zX {N n m sz gd j:Nat} {e:TypeId} {k:K} {w:World}:∀{ps:List (IV×IV)} {q i:Nat} {es:List MapEntry} {bs:List Nat} {x:IV} {is:List IV},bF N k n w m e sz none i ps es bs→ps[q]?=some (x,.sl sz is)→
  ∃en b,es[q]?=some en∧b∈bs∧BL N k n w m e sz is en.val b∧
   ∀(k':K),Ext k n w k' n w→(∀c∈bs,c≠b→∀o,k.H c=some (m,o)→k'.H c=some (m,o))→Rep k' n w (.row j gd) en.val→∃bs',(∀c∈bs',c∈bs∧c≠b)∧bF N k' n w m e sz (some (i+q,j,gd)) i ps es bs'
 |[],q,_,_,_,_,_,_,hq=>by simp at hq
 |(a,y)::ps,q,i,es,bs,x,is,h,hq=>by
  unfold bF at h
  obtain⟨en,r,h1,h2,h3⟩:=h
  subst h1
  rcases h3 with ⟨_,_,h4,_⟩|⟨_,b,bs',is',h5,h6,h7,h8,h9⟩
  ·cases h4
  subst h5
  cases q with
  |zero=>
   simp only[List.getElem?_cons_zero,Option.some.injEq,Prod.mk.injEq]at hq
   obtain⟨_,hq⟩:=hq
   rw[h7]at hq
   injection hq with _ hq
   subst hq
   refine⟨en,b,rfl,List.mem_cons_self,h8,fun k' he hH hR=>⟨bs',fun c hc=>⟨List.mem_cons_of_mem _ hc,fun e=>h6 (e ▸ hc)⟩,?_⟩⟩
   unfold bF
   refine⟨en,r,rfl,aQ he.q _ _ h2,Or.inl ⟨j,gd,rfl,hR,?_⟩⟩
   have h10:=h9.mono he (fun c hc o ho=>⟨hH c (List.mem_cons_of_mem _ hc) (fun e=>h6 (e ▸ hc)) o ho,rfl⟩)
   exact rows_other (by omega) h10
  |succ q=>
   simp only[List.getElem?_cons_succ]at hq
   obtain⟨en',b',g1,g2,g3,g4⟩:=zX (q:=q) (i:=i+1) h9 hq
   refine⟨en',b',g1,List.mem_cons_of_mem _ g2,g3,fun k' he hH hR=>?_⟩
   obtain⟨bs2,g5,g6⟩:=g4 k' he (fun c hc=>hH c (List.mem_cons_of_mem _ hc)) hR
   have hb:b≠b':=fun e=>h6 (e ▸ g2)
   refine⟨b::bs2,fun c hc=>?_,?_⟩
   ·rcases List.mem_cons.1 hc with rfl|hc
    ·exact⟨List.mem_cons_self,hb⟩
    ·exact⟨List.mem_cons_of_mem _ (g5 c hc).1,(g5 c hc).2⟩
   ·unfold bF
    refine⟨en,r,rfl,aQ he.q _ _ h2,Or.inr ⟨fun j' g' h=>?_,b,bs2,is',rfl,fun hc=>h6 (g5 b hc).1,h7,h8.mono he (fun o ho=>⟨hH b List.mem_cons_self hb o ho,rfl⟩),?_⟩⟩
    ·simp only[Option.some.injEq,Prod.mk.injEq]at h
     omega
    ·rw[show i+(q+1)=i+1+q by omega]
     exact g6
where
 rows_other {k:K} {w:World} {N n m sz:Nat} {e:TypeId} {i0 j g:Nat}:∀{ps:List (IV×IV)} {i:Nat} {es:List MapEntry} {bs:List Nat},i0 < i→bF N k n w m e sz none i ps es bs→bF N k n w m e sz (some (i0,j,g)) i ps es bs
 |[],_,_,_,_,h=>h
 |(a,y)::ps,i,es,bs,hi,h=>by
  unfold bF at h ⊢
  obtain⟨en,r,h1,h2,h3⟩:=h
  rcases h3 with ⟨_,_,h4,_⟩|⟨_,b,bs',is',h5,h6,h7,h8,h9⟩
  ·cases h4
  ·exact⟨en,r,h1,h2,Or.inr ⟨fun j' g' h=>by simp only[Option.some.injEq,Prod.mk.injEq]at h;omega,b,bs',is',h5,h6,h7,h8,rows_other (by omega) h9⟩⟩
theorem Weak.Dg {Γ:Ctx} {E:List PV} {B:List Blk} (r i j:Nat) {kk:MK} {e:TypeId} {sz g gd:Nat} {ps:List (IV×IV)} {x:IV} {is:List IV} (hb:B[r]?=some (.map (.rows kk e sz none) g ps)) (hi:ps[i]?=some (x,.sl sz is)) (hj:B[j]?=some (.dead gd)) :
  Weak Γ ⟨E,B⟩ ⟨E,(B.set r (.map (.rows kk e sz (some (i,j,gd+1))) g ps)).set j (.row e sz (gd+1) (is.map .imm))⟩:=by
 rintro a w ⟨hd,k,hI,hT⟩
 have hrj:r≠j:=fun h=>by rw[h,hj]at hb;cases hb
 have hrl:r < B.length:=(List.getElem?_eq_some_iff.1 hb).1
 have hjl:j < B.length:=(List.getElem?_eq_some_iff.1 hj).1
 obtain⟨q1,m,es,clock,bs,f1,f2,f3,f4,f5,f6⟩:=hI.blk r _ hb
 obtain⟨en,b,t1,t2,⟨t3,⟨ob,t4⟩,xs,t5,t6⟩,t7⟩:=zX (j:=j) (gd:=gd+1) f4 hi
 have hGj:k.G j=gd:=hI.blk j _ hj
 have howr:own k r (.map (.rows kk e sz none) g ps)=some m:=by show base (k.ρ r)=_;rw[f1];rfl
 let k':K:=⟨fun q=>if q=j then en.val else k.ρ q,fun q=>if q=j then gd+1 else k.G q,k.Q,fun c=>if c=b then none else k.H c⟩
 have hρ:∀q,q≠j→k'.ρ q=k.ρ q:=fun q h=>if_neg h
 have hG:∀q,q≠j→k'.G q=k.G q:=fun q h=>if_neg h
 have hρj:k'.ρ j=en.val:=if_pos rfl
 have hGj':k'.G j=gd+1:=if_pos rfl
 have hH:∀c p,c≠b→k.H c=some p→k'.H c=some p:=fun c p h hp=>by show (if c=b then none else _)=_;rw[if_neg h];exact hp
 have he:Ext k B.length w k' B.length w:=⟨Nat.le_refl _,fun _ h=>⟨h,rfl⟩,fun q _=>by
  by_cases hq:q=j
  ·subst hq
   rw[hGj']
   exact⟨by omega,fun h=>by omega⟩
  ·rw[hG q hq,hρ q hq]
   exact⟨Nat.le_refl _,fun _=>rfl⟩⟩
 have hB':∀q y,((B.set r (.map (.rows kk e sz (some (i,j,gd+1))) g ps)).set j (.row e sz (gd+1) (is.map .imm)))[q]?=some y→
   (q=j∧y=.row e sz (gd+1) (is.map .imm))∨(q=r∧q≠j∧y=.map (.rows kk e sz (some (i,j,gd+1))) g ps)∨(q≠j∧q≠r∧B[q]?=some y):=fun q y hy=>by
  by_cases hq:q=j
  ·subst hq
   rw[List.getElem?_set_self (by rw[List.length_set];exact hjl)]at hy
   exact Or.inl ⟨rfl,(Option.some.inj hy).symm⟩
  ·rw[List.getElem?_set_ne (Ne.symm hq)]at hy
   by_cases hqr:q=r
   ·subst hqr
    rw[List.getElem?_set_self hrl]at hy
    exact Or.inr (Or.inl ⟨rfl,hq,(Option.some.inj hy).symm⟩)
   ·rw[List.getElem?_set_ne (Ne.symm hqr)]at hy
    exact Or.inr (Or.inr ⟨hq,hqr,hy⟩)
 have hlen:((B.set r (.map (.rows kk e sz (some (i,j,gd+1))) g ps)).set j (.row e sz (gd+1) (is.map .imm))).length=B.length:=by rw[List.length_set,List.length_set]
 have hkb:=hI.kp.fr b (fK t4)
 have hnb:=hI.hn b _ t4
 have hown:∀q y c,((B.set r (.map (.rows kk e sz (some (i,j,gd+1))) g ps)).set j (.row e sz (gd+1) (is.map .imm)))[q]?=some y→own k' q y=some c→(q=j∧c=b)∨(q≠j∧∃y',B[q]?=some y'∧own k q y'=some c):=fun q y c hy hc=>by
  rcases hB' q y hy with ⟨h1,h2⟩|⟨h1,h2,h3⟩|⟨h1,h2,h3⟩
  ·subst h1;subst h2
   have:base (k'.ρ q)=some c:=hc
   rw[hρj,t3]at this
   exact Or.inl ⟨rfl,(Option.some.inj this).symm⟩
  ·subst h3
   have hc:base (k'.ρ q)=some c:=hc
   rw[hρ q h2]at hc
   exact Or.inr ⟨h2,.map (.rows kk e sz none) g ps,by rw[h1];exact hb,hc⟩
  ·rw[fG (hρ q h1)]at hc
   exact Or.inr ⟨h1,y,h3,hc⟩
 have hnob:∀q y',B[q]?=some y'→own k q y'≠some b:=fun q y' h1 h2=>hI.nf q y' b h1 h2 (fK t4)
 refine⟨hd,k',⟨hI.below,hI.lt,hI.le,hI.qs,hI.rr,fun gg cs hc=>by rw[hlen];exact aU he _ _ (hI.gl gg cs hc),fun q y hy=>?_,fun q y c hy hc=>?_,fun q q' y y' c hy hy' h1 h2=>?_,⟨fun c hc=>?_,by rw[hlen];exact hI.kp.ext.trans he⟩,fun q y c hy hc hk=>?_,fun c p hp=>?_⟩,by show aI k' _ w _ _;rw[hlen];exact bU he _ _ hT⟩
 ·rw[hlen]
  rcases hB' q y hy with ⟨h1,h2⟩|⟨h1,h2,h3⟩|⟨h1,h2,h3⟩
  ·subst h1;subst h2
   refine⟨hGj',xs,?_,nU (k:=k) (k':=k') rfl t6⟩
   rw[hρj,List.length_map]
   exact t5
  ·subst h3;subst h1
   refine⟨(hG q h2).trans q1,?_⟩
   rw[hρ q h2]
   obtain⟨bs',_,u2⟩:=t7 k' he (fun c _ hcb o ho=>hH c _ hcb ho) (by
    unfold Rep
    refine⟨?_,hjl,Nat.le_of_eq hGj'.symm,fun _=>hρj.symm⟩
    rcases t5.2 with ⟨h,_⟩|⟨_,_,_,h,_⟩<;>rw[h]<;>rfl)
   exact⟨m,es,clock,bs',f1,f2,f3,by rw[Nat.zero_add]at u2;exact u2,f5,f6⟩
  ·refine dG (hI.blk q y h3) he (hρ q h1) (hG q h1) (fun _ _=>rfl) (fun m' c o hm hc=>⟨hH c _ (fun e=>?_) hc,rfl⟩)
   subst e
   rw[t4]at hc
   simp only[Option.some.injEq,Prod.mk.injEq]at hc
   exact h2 (hI.inj q r _ _ m' h3 hb hm (hc.1 ▸ howr))
 ·rcases hown q y c hy hc with ⟨_,h2⟩|⟨_,y',h2,h3⟩
  ·subst h2
   exact⟨hkb.2.2,hnb.2,hkb.1⟩
  ·exact hI.sep q y' c h2 h3
 ·rcases hown q y c hy h1 with ⟨u1,u2⟩|⟨u1,z,u2,u3⟩<;>rcases hown q' y' c hy' h2 with ⟨v1,v2⟩|⟨v1,z',v2,v3⟩
  ·rw[u1,v1]
  ·subst u2;exact absurd v3 (hnob q' z' v2)
  ·subst v2;exact absurd u3 (hnob q z u2)
  ·exact hI.inj q q' z z' c u2 v2 u3 v3
 ·have hk0:kept Γ k c∧¬(c=b∧¬Γ.F c):=by
   rcases hc with hc|hc
   ·exact⟨Or.inl hc,fun h=>h.2 hc⟩
   ·have hc:(if c=b then none else k.H c)≠none:=hc
    by_cases hcb:c=b
    ·rw[if_pos hcb]at hc;exact absurd rfl hc
    ·rw[if_neg hcb]at hc;exact⟨Or.inr hc,fun h=>hcb h.1⟩
  obtain⟨g1,g2,g3⟩:=hI.kp.fr c hk0.1
  refine⟨g1,?_,g3⟩
  rw[g2]
  unfold memo
  split
  ·rfl
  ·rename_i hF
   show _=Option.map _ (if c=b then none else k.H c)
   rw[if_neg (fun h=>hk0.2 ⟨h,hF⟩)]
 ·rcases hown q y c hy hc with ⟨_,h2⟩|⟨_,y',h2,h3⟩
  ·subst h2
   rcases hk with hk|hk
   ·exact hnb.1 hk
   ·have hk:(if c=c then none else k.H c)≠none:=hk
    rw[if_pos rfl]at hk
    exact hk rfl
  ·refine hI.nf q y' c h2 h3 (hk.imp (fun h=>h) (fun hk=>?_))
   have hk:(if c=b then none else k.H c)≠none:=hk
   split at hk
   ·exact absurd rfl hk
   ·exact hk
 ·have hp:(if c=b then none else k.H c)=some p:=hp
  split at hp
  ·cases hp
  ·exact hI.hn c p hp
theorem Weak.Ij {Γ:Ctx} {E:List PV} {B:List Blk} (r:Nat) (e:TypeId) (sz:Nat) {kk:MK} {g:Nat} (hit:gF kk=false) (hb:B[r]?=some (.map kk g [])):Weak Γ ⟨E,B⟩ ⟨E,B.set r (.map (.rows kk e sz none) g [])⟩:=by
 rintro a w ⟨hd,k,hI,hT⟩
 have hrl:r < B.length:=(List.getElem?_eq_some_iff.1 hb).1
 obtain⟨q1,hm⟩:=hI.blk r _ hb
 obtain⟨b,es,clock,f1,f2,f3,f4,f5,f6⟩:=(fJ hit).1 hm
 have hget:∀q y,(B.set r (.map (.rows kk e sz none) g []))[q]?=some y→∃y',B[q]?=some y'∧own k q y=own k q y'∧(nW Γ k B.length w q y'→nW Γ k B.length w q y):=fun q y hy=>by
  by_cases hq:q=r
  ·subst hq
   rw[List.getElem?_set_self hrl]at hy
   injection hy with hy
   subst hy
   exact⟨_,hb,rfl,fun _=>⟨q1,b,es,clock,[],f1,f2,f3,⟨f4,rfl⟩,f5,f6⟩⟩
  ·rw[List.getElem?_set_ne (Ne.symm hq)]at hy
   exact⟨y,hy,rfl,fun h=>h⟩
 refine⟨hd,k,⟨hI.below,hI.lt,hI.le,hI.qs,hI.rr,fun gg cs hc=>by rw[List.length_set];exact hI.gl gg cs hc,fun q y hy=>?_,fun q y c hy hc=>?_,fun q q' y y' c hy hy' h1 h2=>?_,⟨hI.kp.fr,by rw[List.length_set];exact hI.kp.ext⟩,fun q y c hy hc=>?_,hI.hn⟩,by show aI k _ w _ _;rw[List.length_set];exact hT⟩
 ·rw[List.length_set]
  obtain⟨y',h1,_,h3⟩:=hget q y hy
  exact h3 (hI.blk q y' h1)
 ·obtain⟨y',h1,h2,_⟩:=hget q y hy
  exact hI.sep q y' c h1 (h2 ▸ hc)
 ·obtain⟨z,u1,u2,_⟩:=hget q y hy
  obtain⟨z',v1,v2,_⟩:=hget q' y' hy'
  exact hI.inj q q' z z' c u1 v1 (u2 ▸ h1) (v2 ▸ h2)
 ·obtain⟨y',h1,h2,_⟩:=hget q y hy
  exact hI.nf q y' c h1 (h2 ▸ hc)
theorem yA {N n m sz:Nat} {e:TypeId} {k:K} {w:World} {Q':Nat→Prop} (hQ:∀c,k.Q c→Q' c) (hH:∀c o,k.H c=some (m,o)→Q' c):∀{ps:List (IV×IV)} {i:Nat} {es:List MapEntry} {bs:List Nat},bF N k n w m e sz none i ps es bs→dB Q' w ps es
 |[],_,_,_,h=>h.1
 |(a,y)::ps,i,es,bs,h=>by
  unfold bF at h
  obtain⟨en,r,h1,h2,h3⟩:=h
  subst h1
  rcases h3 with ⟨_,_,h4,_⟩|⟨_,b,bs',is,h5,h6,h7,⟨t3,⟨ob,t4⟩,xs,t5,t6⟩,h9⟩
  ·cases h4
  ·unfold dB
   refine⟨en,r,rfl,aQ (fun c hc=>⟨hQ c hc,rfl⟩) _ _ h2,?_,yA hQ hH h9⟩
   subst h7
   unfold aF
   obtain⟨u0,u⟩:=t5
   rcases u with ⟨u1,u2⟩|⟨gb,cap,cur,u1,u2,u3,u4,u5,u6,u7⟩
   ·rw[u1]at t3;cases t3
   ·rw[u1]at t3
    injection t3 with t3
    subst t3
    refine⟨_,cap,u1,u4,u5,fun _=>⟨gb,0,rfl,hH _ _ t4,mJ (fun c hc=>⟨hQ c hc,rfl⟩) is xs gb 0 t6 (fun j u hj=>?_)⟩⟩
    have:=(show w.ownsRow N e sz en.val is.length xs from ⟨u0,Or.inr ⟨gb,cap,cur,u1,u2,u3,u4,u5,u6,u7⟩⟩).cells (g:=gb) (by rw[u1];rfl) j u hj
    rw[Nat.zero_add]
    have hadd:(⟨gb,0,none⟩:Addr).add j=⟨gb,j,none⟩:=add0 gb j
    rw[hadd]at this
    exact this
theorem Weak.rT {Γ:Ctx} {E:List PV} {B:List Blk} (r:Nat) {kk:MK} {e:TypeId} {sz g:Nat} {ps:List (IV×IV)} (hit:gF kk=false) (hb:B[r]?=some (.map (.rows kk e sz none) g ps)) :
  Weak Γ ⟨E,B⟩ ⟨E,B.set r (.map kk g ps)⟩:=by
 rintro a w ⟨hd,k,hI,hT⟩
 have hrl:r < B.length:=(List.getElem?_eq_some_iff.1 hb).1
 obtain⟨q1,m,es,clock,bs,f1,f2,f3,f4,f5,f6⟩:=hI.blk r _ hb
 have howr:own k r (.map (.rows kk e sz none) g ps)=some m:=by show base (k.ρ r)=_;rw[f1];rfl
 let k':K:=⟨k.ρ,k.G,fun c=>k.Q c∨∃o,k.H c=some (m,o),fun c=>match k.H c with
  |some (m',o)=>if m'=m then none else some (m',o)
  |none=>none⟩
 have hHm:∀c m' o,m'≠m→k.H c=some (m',o)→k'.H c=some (m',o):=fun c m' o hne h=>by
  show (match k.H c with|some (m',o)=>if m'=m then none else some (m',o)|none=>none)=_
  rw[h]
  exact if_neg hne
 have hHk:∀c p,k'.H c=some p→k.H c=some p∧p.1≠m:=fun c p h=>by
  have h:(match k.H c with|some (m',o)=>if m'=m then none else some (m',o)|none=>none)=some p:=h
  cases hc:k.H c with
  |none=>rw[hc]at h;cases h
  |some q=>
   rw[hc]at h
   dsimp only at h
   split at h
   ·cases h
   ·rename_i hne
    injection h with h
    subst h
    exact⟨rfl,hne⟩
 have he:Ext k B.length w k' B.length w:=⟨Nat.le_refl _,fun _ h=>⟨Or.inl h,rfl⟩,fun _ _=>⟨Nat.le_refl _,fun _=>rfl⟩⟩
 have hk:∀c,kept Γ k' c→kept Γ k c∧(Γ.F c∨∀o,k.H c≠some (m,o)):=fun c hc=>by
  rcases hc with hc|hc
  ·exact⟨Or.inl hc,Or.inl hc⟩
  ·cases h:k'.H c with
   |none=>exact absurd h hc
   |some p=>
    obtain⟨h1,h2⟩:=hHk c p h
    exact⟨fK h1,Or.inr fun o ho=>by rw[h1]at ho;injection ho with ho;exact h2 (by rw[ho])⟩
 have hget:∀q y,(B.set r (.map kk g ps))[q]?=some y→(q=r∧y=.map kk g ps)∨(q≠r∧B[q]?=some y):=fun q y hy=>by
  by_cases hq:q=r
  ·subst hq
   rw[List.getElem?_set_self hrl]at hy
   exact Or.inl ⟨rfl,(Option.some.inj hy).symm⟩
  ·rw[List.getElem?_set_ne (Ne.symm hq)]at hy
   exact Or.inr ⟨hq,hy⟩
 have hown:∀q y c,(B.set r (.map kk g ps))[q]?=some y→own k' q y=some c→∃y',B[q]?=some y'∧own k q y'=some c:=fun q y c hy hc=>by
  rcases hget q y hy with ⟨h1,h2⟩|⟨h1,h2⟩
  ·subst h1;subst h2
   exact⟨_,hb,hc⟩
  ·exact⟨y,h2,by cases y<;>exact hc⟩
 refine⟨hd,k',⟨hI.below,fun c hc=>hc.elim (hI.lt c) (fun ⟨o,h⟩=>(hI.kp.fr c (fK h)).1),hI.le,fun c hc=>hc.elim (hI.qs c) (fun ⟨o,h⟩=>Or.inr (hI.hn c _ h).2),hI.rr,fun gg cs hc=>by rw[List.length_set];exact aU he _ _ (hI.gl gg cs hc),fun q y hy=>?_,fun q y c hy hc=>?_,fun q q' y y' c hy hy' h1 h2=>?_,⟨fun c hc=>?_,by rw[List.length_set];exact hI.kp.ext.trans he⟩,fun q y c hy hc h=>?_,fun c p hp=>hI.hn c p (hHk c p hp).1⟩,by show aI k' _ w _ _;rw[List.length_set];exact bU he _ _ hT⟩
 ·rw[List.length_set]
  rcases hget q y hy with ⟨h1,h2⟩|⟨h1,h2⟩
  ·subst h1;subst h2
   exact⟨q1,(fJ hit).2 ⟨m,es,clock,f1,f2,f3,yA (fun c h=>Or.inl h) (fun c o h=>Or.inr ⟨o,h⟩) f4,f5,f6⟩⟩
  ·refine dG (hI.blk q y h2) he rfl rfl (fun _ _=>rfl) (fun m' c o hm hc=>⟨hHm c m' o (fun e=>?_) hc,rfl⟩)
   subst e
   exact h1 (hI.inj q r _ _ m' h2 hb hm howr)
 ·obtain⟨y',h1,h2⟩:=hown q y c hy hc
  obtain⟨g1,g2,g3⟩:=hI.sep q y' c h1 h2
  exact⟨fun h=>h.elim g1 (fun ⟨o,h⟩=>hI.nf q y' c h1 h2 (fK h)),g2,g3⟩
 ·obtain⟨z,u1,u2⟩:=hown q y c hy h1
  obtain⟨z',v1,v2⟩:=hown q' y' c hy' h2
  exact hI.inj q q' z z' c u1 v1 u2 v2
 ·obtain⟨h1,h2⟩:=hk c hc
  obtain⟨g1,g2,g3⟩:=hI.kp.fr c h1
  refine⟨g1,?_,fun h=>h.elim g3 (fun ⟨o,h⟩=>?_)⟩
  ·rw[g2]
   unfold memo
   split
   ·rfl
   ·rename_i hF
    have h3:=h2.resolve_left hF
    show Option.map _ (k.H c)=Option.map _ (match k.H c with|some (m',o)=>if m'=m then none else some (m',o)|none=>none)
    cases h4:k.H c with
    |none=>rfl
    |some p=>
     dsimp only
     rw[if_neg (fun e=>h3 p.2 (by rw[h4,←e]))]
  ·rcases h2 with h2|h2
   ·exact (hI.hn c _ h).1 h2
   ·exact h2 o h
 ·obtain⟨y',h1,h2⟩:=hown q y c hy hc
  exact hI.nf q y' c h1 h2 (hk c h).1
theorem aC.Dg {Γ:Ctx} {n:Nat} {A:List (Nat×PV)} {B:List Blk} (r i j:Nat) {kk:MK} {e:TypeId} {sz g gd:Nat} {ps:List (IV×IV)} {x:IV} {is:List IV} (hb:B[r]?=some (.map (.rows kk e sz none) g ps)) (hi:ps[i]?=some (x,.sl sz is)) (hj:B[j]?=some (.dead gd)) :
  aC Γ n ⟨A,B⟩ ⟨A,(B.set r (.map (.rows kk e sz (some (i,j,gd+1))) g ps)).set j (.row e sz (gd+1) (is.map .imm))⟩:=Weak.Dg r i j hb hi hj
theorem aC.Ij {Γ:Ctx} {n:Nat} {A:List (Nat×PV)} {B:List Blk} (r:Nat) (e:TypeId) (sz:Nat) {kk:MK} {g:Nat} (hit:gF kk=false) (hb:B[r]?=some (.map kk g [])):aC Γ n ⟨A,B⟩ ⟨A,B.set r (.map (.rows kk e sz none) g [])⟩:=Weak.Ij r e sz hit hb
theorem aC.rT {Γ:Ctx} {n:Nat} {A:List (Nat×PV)} {B:List Blk} (r:Nat) {kk:MK} {e:TypeId} {sz g:Nat} {ps:List (IV×IV)} (hit:gF kk=false) (hb:B[r]?=some (.map (.rows kk e sz none) g ps)):aC Γ n ⟨A,B⟩ ⟨A,B.set r (.map kk g ps)⟩:=Weak.rT r hit hb
end Go.Pv
