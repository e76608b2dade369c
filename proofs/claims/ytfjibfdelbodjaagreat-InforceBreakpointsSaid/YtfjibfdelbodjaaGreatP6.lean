/-
  Plain values: what must be shown of regions and code. Plain values: bodies of calls that are given blocks; states made less precise. Plain values: a nil slice that will be appended to. Plain values: a block made by a call at a place that was laid ready; boxes told otherwise. Plain values: arguments that came in, of any types that are made of numbers, strings, truth values, structs and slices.
-/
import Derived.Test.YtfjibfdelbodjaaGreatP3
import Derived.Deep.Slices
import Derived.ChangeArms
import Derived.ChangeOld
import Derived.SizedLaws
namespace Go.Pv
open Go.RowKit (Below)
set_option linter.unusedSimpArgs false
set_option linter.unusedSectionVars false
def evq (T:Tb) (E:List PV) (tr:List Nat):Operand→PV
 |.tmp t=>if tr.contains t then E.getD t .any else .any
 |x=>evT T [] x
def Sr (br:List Nat) (B:List Blk) (r:Nat):Option Blk:=if br.contains r then B[r]? else none
def uF (o:Oper) (ev:Operand→PV):List Nat:=(Nu o).flatMap fun x=>SX (ev x)
def newId (o:Oper) (id:Nat):List Nat:=if ru o.op then [id] else []
def eY:List (Nat×PV)→Nat→PV
 |[],_=>.any
 |(s,p)::l,t=>match Nat.decEq s t with
  |isTrue _=>p
  |isFalse _=>eY l t
def evl (T:Tb) (vs:List (Nat×PV)):Operand→PV
 |.tmp t=>eY vs t
 |x=>evT T [] x
theorem Dr (E:List PV) (t:Nat):∀ts:List Nat,eY (ts.map fun t=>(t,E.getD t .any)) t=if ts.contains t then E.getD t .any else .any
 |[]=>rfl
 |s::ts=>by
  simp only[List.map_cons]
  unfold eY
  split
  ·rename_i h _;subst h;simp
  ·rename_i h _
   rw[Dr E t ts]
   have:((s::ts).contains t)=ts.contains t:=by
    rw[List.contains_cons]
    have:(t == s)=false:=by simpa using fun e:t=s=>h e.symm
    rw[this,Bool.false_or]
   rw[this]
theorem RI (T:Tb) (E:List PV) (tr:List Nat):evl T (tr.map fun t=>(t,E.getD t .any))=evq T E tr:=by
 funext x
 cases x with
 |tmp t=>exact Dr E t tr
 |_=>rfl
def mQ:List Nat→(List Nat→Prop)→Prop
 |[],K=>K []
 |c::cs,K=>je c fun c=>mQ cs fun cs=>K (c::cs)
theorem sI:∀(l:List Nat) (K:List Nat→Prop),mQ l K=K l
 |[],K=>rfl
 |c::cs,K=>by unfold mQ;rw[dw,sI]
def Ir:Blk→(Blk→Prop)→Prop
 |.dead g,K=>je g fun g=>K (.dead g)
 |.box g cs t,K=>je g fun g=>bC cs fun cs=>K (.box g cs t)
 |.row e sz g es,K=>je g fun g=>K (.row e sz g es)
 |.map kk g ps,K=>je g fun g=>K (.map kk g ps)
theorem Ap (b:Blk) (K:Blk→Prop):Ir b K=K b:=by
 cases b with
 |box g cs t=>show je g (fun g=>bC cs (fun cs=>K (.box g cs t)))=_;rw[dw,cZ]
 |dead g=>show je g (fun g=>K (.dead g))=_;rw[dw]
 |row e sz g es=>show je g (fun g=>K (.row e sz g es))=_;rw[dw]
 |map kk g ps=>show je g (fun g=>K (.map kk g ps))=_;rw[dw]
def j5:List Blk→(List Blk→Prop)→Prop
 |[],K=>K []
 |b::l,K=>Ir b fun b=>j5 l fun l=>K (b::l)
theorem lT:∀(l:List Blk) (K:List Blk→Prop),j5 l K=K l
 |[],K=>rfl
 |b::l,K=>by unfold j5;rw[Ap,lT]
def CY:List (Nat×Blk)→(List (Nat×Blk)→Prop)→Prop
 |[],K=>K []
 |(r,b)::l,K=>je r fun r=>Ir b fun b=>CY l fun l=>K ((r,b)::l)
theorem zY:∀(l:List (Nat×Blk)) (K:List (Nat×Blk)→Prop),CY l K=K l
 |[],K=>rfl
 |(r,b)::l,K=>by unfold CY;rw[dw,Ap,zY]
def J4:List (Nat×Blk)→(List Nat→Prop)→Prop
 |[],K=>K []
 |(r,_)::l,K=>J4 l fun ks=>K (r::ks)
theorem Dw:∀(l:List (Nat×Blk)) (K:List Nat→Prop),J4 l K=K (l.map (·.1))
 |[],K=>rfl
 |(r,b)::l,K=>by unfold J4;rw[Dw];rfl
def QU {α:Type}:List α→Nat→α→(List α→Prop)→Prop
 |[],_,_,K=>K []
 |_::xs,0,v,K=>K (v::xs)
 |x::xs,n+1,v,K=>QU xs n v fun xs=>K (x::xs)
theorem Jd {α:Type}:∀(l:List α) (n:Nat) (v:α) (K:List α→Prop),QU l n v K=K (l.set n v)
 |[],_,_,K=>rfl
 |_::xs,0,v,K=>rfl
 |x::xs,n+1,v,K=>by unfold QU;rw[Jd xs n v];rfl
def Fq:List Blk→List (Nat×Blk)→(List Blk→Prop)→Prop
 |B,[],K=>K B
 |B,(r,b)::ws,K=>QU B r b fun B=>Fq B ws K
theorem wI:∀(ws:List (Nat×Blk)) (B:List Blk) (K:List Blk→Prop),Fq B ws K=K (aY B ws)
 |[],B,K=>rfl
 |(r,b)::ws,B,K=>by unfold Fq;rw[Jd,wI ws];rfl
def FX {α:Type}:List α→Nat→(Nat→Prop)→Prop
 |[],n,K=>je n K
 |_::l,n,K=>FX l (n+1) K
theorem qc {α:Type}:∀(l:List α) (n:Nat) (K:Nat→Prop),FX l n K=K (n+l.length)
 |[],n,K=>dw n K
 |_::l,n,K=>by unfold FX;rw[qc l];simp[Nat.add_comm,Nat.add_left_comm]
mutual
def QK:PV→List Nat
 |.any=>[]
 |.imm _=>[]
 |.agg cs=>EI cs
 |.tup cs=>EI cs
 |.ptr r _ _=>[r]
 |.row r _=>[r]
 |.eptr r _ _ _ _=>[r]
 |.sub r _ _ _ _=>[r]
 |.iptr _=>[]
 |.ful _ _=>[]
 |.clo _ cs=>EI cs
def EI:List PV→List Nat
 |[]=>[]
 |c::cs=>QK c++EI cs
end
def reach (B:List Blk):Nat→List Nat→List Nat→List Nat
 |0,_,l=>l
 |_,[],l=>l
 |n+1,r::todo,l=>match l.contains r with
  |true=>reach B n todo l
  |false=>match B[r]? with
   |some (.box _ cs _)=>reach B n (todo++EI cs) (l++[r])
   |_=>reach B n todo (l++[r])
def spares:List Blk→Nat→List Nat
 |[],_=>[]
 |.dead 77::B,i=>i::spares B (i+1)
 |_::B,i=>spares B (i+1)
def Mt (B:List Blk):List Nat→List Nat
 |[]=>[]
 |q::l=>(match B[q]? with
  |some (.row _ _ _ es)=>es.flatMap QK
  |_=>[])++Mt B l
def TP (T:Tb) (o:Oper) (id:Nat) (ev:Operand→PV) (B:List Blk):List Nat:=match o.op with
 |.call ⟨.value f,_,_⟩=>(match fnP (ev f) with
  |some (f,_)=>(match Ou (T.nw f) with
   |true=>Mt B (o.op.operands.toList.flatMap fun x=>QK (ev x))
   |false=>match T.nw f with
    |0=>[]
    |1=>[]
    |n+2=>id::(spares B 0).take n)
  |none=>[])
 |_=>[]
def TF (T:Tb) (o:Oper) (id:Nat) (ev:Operand→PV) (B:List Blk):List Nat:=match iN o.op with
 |true=>reach B 50 (o.op.operands.toList.flatMap fun x=>QK (ev x)) []++TP T o id ev B
 |false=>[]
def rdX (o:Oper) (id:Nat) (rd:List Nat):List Nat:=match iN o.op with
 |true=>rd++[id]
 |false=>[]
def Qk (o:Oper) (draw:Bool) (id:Nat) (sh:List Sh) (x:Sh) (K:Nat→List Sh→Prop):Prop:=
 match ru o.op,draw with
 |true,true=>je (id+1) fun id=>K id (sh++[x])
 |true,false=>je (id+1) fun id=>K id sh
 |false,true=>K id (sh++[x])
 |false,false=>K id sh
theorem Ka {o:Oper} {draw:Bool} {id:Nat} {sh:List Sh} {x:Sh} {K:Nat→List Sh→Prop} (h:Qk o draw id sh x K):K (nextId o id) (if draw then sh++[x] else sh):=by
 unfold Qk at h
 unfold nextId
 split at h<;>simp_all [dw]
section
variable {P:Program} {Γ:Ctx} {T:Tb} (hT:∀t d,T.td t=some d→aJ P t=some d) (hE:T.eq=Γ.eqT) (hG:T.gl=Γ.X.gl)
include hT hE hG
theorem G6 (E:List PV):evT T E=pev Γ E:=by
 funext x
 cases x with
 |global g=>simp only[evT,pev,hG];cases Γ.X.gl g<;>rfl
 |_=>rfl
theorem RX (E:List PV) (tr:List Nat):evq T E tr=evr Γ E tr:=by
 funext x
 cases x with
 |tmp t=>rfl
 |_=>simp only[evq,evr,G6 hT hE hG]
theorem O0 {ops:Array Oper} {o:Oper} {id:Nat} {s:St} {K:PV→List (Nat×Blk)→Prop} {rd:List Nat} (hw:jH ops s.E o=some true)
  (h:aN T (pG P Γ.X) o.op id (evq T s.E (kP o)) (Sr (uF o (evq T s.E (kP o))++(rdX o id rd++newId o id)) s.B) rd K) :
  ∃(c:List Orc) (e:Eff),(∀rest,vZ o (c++rest)=rest)∧(∀rest,x9 P Γ ops s o id (c++rest)=some e)∧(∀ob,e.ob=some ob→gq P Γ ob)∧e.dst=o.dst∧
   uS e=⟨o.dst,e.ws.map (·.1),gtr ops o++kP o,uF o (evq T s.E (kP o))++(rdX o id rd++newId o id)⟩∧K e.v e.ws:=by
 obtain⟨c,out,h1,h2,h3,h4,h6⟩:=DZ hT hE h
 rw[RX hT hE hG]at h3 ⊢
 have hbr:∀rest,IJ o (evr Γ s.E (kP o)) (c++rest) id=uF o (evr Γ s.E (kP o))++(rdX o id rd++newId o id):=by
  intro rest
  unfold IJ uF newId rdX
  cases hc:iN o.op with
  |true=>
   obtain⟨x,hx,hr⟩:=h1 hc
   subst hx
   simp[hr]
  |false=>
   have hx:=h2 hc
   subst hx
   simp
 have hget:∀rest,(fun r=>if (IJ o (evr Γ s.E (kP o)) (c++rest) id).contains r then s.B[r]? else none)=Sr (uF o (evr Γ s.E (kP o))++(rdX o id rd++newId o id)) s.B:=by
  intro rest
  funext r
  rw[hbr rest]
  rfl
 refine⟨c,⟨o.dst,out.v,out.ws,out.ob,gtr ops o++kP o,uF o (evr Γ s.E (kP o))++(rdX o id rd++newId o id)⟩,fun rest=>?_,fun rest=>?_,h4,rfl,rfl,h6⟩
 ·unfold vZ
  cases hc:iN o.op with
  |true=>obtain⟨x,hx,hr⟩:=h1 hc;subst hx;rfl
  |false=>have hx:=h2 hc;subst hx;rfl
 ·unfold x9
  rw[hw]
  simp only[]
  rw[hget rest,h3 rest,hbr rest]
end
def Weak (Γ:Ctx) (s s':St):Prop:=∀a w,γ Γ s a w→γ Γ s' a w
def Ti {σ:Type} (Γ:Ctx) (st:σ→St) (I:σ→Prop) (μ:σ→Nat) (i:σ) (Q:Exit→St→Prop):Exit→St→Prop
 |.normal,s'=>∃i',I i'∧μ i' < μ i∧Weak Γ s' (st i')
 |e,s'=>Q e s'
theorem KN {P:Program} {Γ:Ctx} {c:Code} {s:St} {Q:Exit→St→Prop} {σ:Type} (st:σ→St) (I:σ→Prop) (μ:σ→Nat) (i0:σ) (hI:I i0) (h0:Weak Γ s (st i0))
  (round:∀i,I i→AWp P Γ c (st i) (Ti Γ st I μ i Q)):AWp P Γ (.loop c) s Q:=by
 refine O7 (ι:={i:σ // I i}) (fun i=>st i.1) (fun i=>μ i.1) ⟨i0,hI⟩ h0 fun i hX a w hg=>wp_mono (round i.1 i.2 hX a w hg) ?_
 rintro e a' w' ⟨s',h2,h3⟩
 refine⟨s',?_,h3⟩
 cases e with
 |normal=>
  obtain⟨i',h4,h5,h6⟩:=h2
  exact⟨⟨i',h4⟩,h5,h6⟩
 |_=>exact h2
def PU (B:List Blk):PV→(IV→Prop)→Prop
 |.imm i,K=>K i
 |.row r g,K=>match B[r]? with
  |some (.row _ sz g' es)=>if g=g' then bN es fun is=>K (.sl sz is) else False
  |_=>False
 |_,_=>False
def QT (B:List Blk):List PV→(List IV→Prop)→Prop
 |[],K=>K []
 |c::cs,K=>PU B c fun i=>QT B cs fun is=>K (i::is)
def Lu (B:List Blk):PV→(IV→Prop)→Prop
 |.agg cs,K=>QT B cs fun is=>K (.agg is)
 |p,K=>PU B p K
def Ev (T:Tb) (s:St):List ResultVar→(List IV→Prop)→Prop
 |[],K=>K []
 |.tmp t::rs,K=>Lu s.B (s.E.getD t .any) fun i=>Ev T s rs fun is=>K (i::is)
 |.cell t ty::rs,K=>match T.td ty,s.E.getD t .any with
  |some d,.ptr r g off=>match s.B[r]? with
   |some (.box g' cs _)=>if g=g' then (match kg cs off d.size d.agg with
    |some p=>Lu s.B p fun i=>Ev T s rs fun is=>K (i::is)
    |none=>False) else False
   |_=>False
  |_,_=>False
theorem xk {B:List Blk} {p:PV} {M:IV→Prop} (n:Nat) (h:PU B p M):∃i,frz B (n+3) p=some i∧M i:=by
 unfold PU at h
 split at h
 ·rename_i i
  exact⟨i,by unfold frz;rfl,h⟩
 ·rename_i r g
  split at h
  ·rename_i e sz g' es hb
   split at h
   ·rename_i hg
    obtain⟨is,hes,h⟩:=h
    refine⟨.sl sz is,?_,h⟩
    unfold frz
    rw[hb]
    simp only[if_pos hg,hes,Ga]
   ·exact h.elim
  ·exact h.elim
 ·exact h.elim
theorem xD {B:List Blk} (n:Nat):∀{cs:List PV} {M:List IV→Prop},QT B cs M→∃is,kL B (n+4) cs=some is∧M is
 |[],M,h=>⟨[],by unfold kL;rfl,h⟩
 |c::cs,M,h=>by
  unfold QT at h
  obtain⟨i,h1,h2⟩:=xk n h
  obtain⟨is,h3,h4⟩:=xD n h2
  exact⟨i::is,by unfold kL;rw[h1,h3],h4⟩
theorem wP {B:List Blk} {p:PV} {M:IV→Prop} (h:Lu B p M):∃i,frz B 9 p=some i∧M i:=by
 unfold Lu at h
 split at h
 ·rename_i cs
  obtain⟨is,h1,h2⟩:=xD 4 h
  exact⟨.agg is,by unfold frz;rw[h1],h2⟩
 ·exact xk 6 h
theorem lU {P:Program} {T:Tb} (hT:∀t d,T.td t=some d→aJ P t=some d) {s:St}:∀{rs:List ResultVar} {M:List IV→Prop},Ev T s rs M→∃is,pJ P s rs=some is∧M is
 |[],M,h=>⟨[],rfl,h⟩
 |.tmp t::rs,M,h=>by
  unfold Ev at h
  obtain⟨i,h1,h2⟩:=wP h
  obtain⟨is,h3,h4⟩:=lU hT h2
  exact⟨i::is,by unfold pJ OM;simp only[h1,h3],h4⟩
 |.cell t ty::rs,M,h=>by
  unfold Ev at h
  split at h
  ·rename_i d r g off hd hx
   split at h
   ·rename_i g' cs bt hb
    split at h
    ·rename_i hg
     split at h
     ·rename_i p hp
      obtain⟨i,h1,h2⟩:=wP h
      obtain⟨is,h3,h4⟩:=lU hT h2
      refine⟨i::is,?_,h4⟩
      unfold pJ OM
      simp only[hT _ _ hd,hx,hb]
      rw[if_pos hg,hp,Option.bind_some,h1,h3]
     ·exact h.elim
    ·exact h.elim
   ·exact h.elim
  ·exact h.elim
end Go.Pv
namespace Go.Pv
open Go.RowKit (Below)
set_option linter.unusedSimpArgs false
set_option linter.unusedSectionVars false
theorem Weak.refl {Γ:Ctx} (s:St):Weak Γ s s:=fun _ _ h=>h
theorem Weak.trans {Γ:Ctx} {s t u:St} (h:Weak Γ s t) (h':Weak Γ t u):Weak Γ s u:=fun a w hg=>h' a w (h a w hg)
theorem Weak.slots {Γ:Ctx} {E E':List PV} {B B':List Blk} (m:Nat) (hn0:Γ.n0≤m) (hB:B.take m=B') (hm:B'.length=m) (hbl:B'.all (fA m)=true) (hE:Wk m E E'):Weak Γ ⟨E,B⟩ ⟨E',B'⟩:=fun _ _ h=>Rx hB hm hbl hE h hn0
theorem Weak.frz {Γ:Ctx} {E E':List PV} {B B':List Blk} (r:Nat) {e:TypeId} {sz g:Nat} {es:List PV} {is:List IV} (hb:B[r]?=some (.row e sz g es)) (hes:es=is.map .imm) {i:IV} (hi:ILe (.sl sz is) i)
  (hE:fzL r g i E=E') (hB:(B.map (fzB r g i)).set r (.dead g)=B'):Weak Γ ⟨E,B⟩ ⟨E',B'⟩:=fun _ _ h=>Rk r hb (oI hes) hi hE hB h
mutual
def rg (r g g':Nat):PV→PV
 |.any=>.any
 |.imm i=>.imm i
 |.agg cs=>.agg (rgL r g g' cs)
 |.tup cs=>.tup (rgL r g g' cs)
 |.ptr q h o=>if q=r then (if h=g then .ptr q g' o else .any) else .ptr q h o
 |.row q h=>if q=r then (if h=g then .row q g' else .any) else .row q h
 |.eptr q h a b c=>if q=r then (if h=g then .eptr q g' a b c else .any) else .eptr q h a b c
 |.sub q h a b c=>if q=r then (if h=g then .sub q g' a b c else .any) else .sub q h a b c
 |.iptr cs=>.iptr cs
 |.ful a b=>.ful a b
 |.clo f cs=>.clo f (rgL r g g' cs)
def rgL (r g g':Nat):List PV→List PV
 |[]=>[]
 |c::cs=>rg r g g' c::rgL r g g' cs
end
def rgB (r g g':Nat):Blk→Blk
 |.dead h=>.dead h
 |.box h cs t=>.box h (rgL r g g' cs) t
 |.row e sz h es=>.row e sz h (rgL r g g' es)
 |.map kk h ps=>.map kk h ps
def pK (g':Nat):Blk→Blk
 |.dead _=>.dead g'
 |.box _ cs t=>.box g' cs t
 |.row e sz _ es=>.row e sz g' es
 |.map kk _ ps=>.map kk g' ps
theorem bA (r g g':Nat):∀is:List IV,rgL r g g' (is.map .imm)=is.map .imm
 |[]=>by simp[rgL]
 |a::l=>by simp only[List.map_cons];unfold rgL;rw[bA r g g' l];unfold rg;rfl
theorem CU (r g g':Nat):∀l:List PV,(rgL r g g' l).length=l.length
 |[]=>by simp[rgL]
 |a::l=>by simp[rgL,CU r g g' l]
section
variable {k:K} {n:Nat} {w:World} {r g g':Nat} (hg:k.G r=g)
include hg
theorem mM {q h:Nat} {p:Value→Prop} (hr:Ref k n q h p) (hc:q≠r∨h=g):Ref ⟨k.ρ,fun x=>if x=r then g' else k.G x,k.Q,k.H⟩ n q (if q=r then g' else h) p:=by
 obtain⟨h1,h2,h3⟩:=hr
 by_cases e:q=r
 ·subst e
  have hh:h=g:=hc.elim (fun h=>absurd rfl h) id
  refine⟨h1,by simp,fun _=>h3 (by rw[hh,hg])⟩
 ·refine⟨h1,by simp[e];exact h2,fun he=>h3 (by simpa[e]using he)⟩
mutual
theorem Gw:∀(p:PV) (v:Value),Rep k n w p v→Rep ⟨k.ρ,fun x=>if x=r then g' else k.G x,k.Q,k.H⟩ n w (rg r g g' p) v
 |.any,v,_=>by unfold rg;exact bg _ _ _ _
 |.imm i,v,h=>by unfold rg;rw[aB]at h ⊢;exact h
 |.agg cs,v,h=>by
  unfold rg
  obtain⟨vs,e,hl⟩:=dx.1 h
  exact dx.2 ⟨vs,e,vo cs vs hl⟩
 |.tup cs,v,h=>by
  unfold rg
  unfold Rep at h ⊢
  obtain⟨vs,e,hl⟩:=h
  exact⟨vs,e,uZ cs vs hl⟩
 |.ptr q h o,v,hp=>by
  unfold rg
  by_cases e:q=r
  ·rw[if_pos e]
   by_cases e2:h=g
   ·rw[if_pos e2]
    unfold Rep at hp ⊢
    have:=mM (g':=g') hg hp.2 (Or.inr e2)
    rw[if_pos e]at this
    exact⟨hp.1,this⟩
   ·rw[if_neg e2];exact bg _ _ _ _
  ·rw[if_neg e]
   unfold Rep at hp ⊢
   have:=mM (g':=g') hg hp.2 (Or.inl e)
   rw[if_neg e]at this
   exact⟨hp.1,this⟩
 |.row q h,v,hp=>by
  unfold rg
  by_cases e:q=r
  ·rw[if_pos e]
   by_cases e2:h=g
   ·rw[if_pos e2]
    unfold Rep at hp ⊢
    have:=mM (g':=g') hg hp.2 (Or.inr e2)
    rw[if_pos e]at this
    exact⟨hp.1,this⟩
   ·rw[if_neg e2];exact bg _ _ _ _
  ·rw[if_neg e]
   unfold Rep at hp ⊢
   have:=mM (g':=g') hg hp.2 (Or.inl e)
   rw[if_neg e]at this
   exact⟨hp.1,this⟩
 |.eptr q h a b c,v,hp=>by
  unfold rg
  by_cases e:q=r
  ·rw[if_pos e]
   by_cases e2:h=g
   ·rw[if_pos e2]
    unfold Rep at hp ⊢
    have:=mM (g':=g') hg hp.2 (Or.inr e2)
    rw[if_pos e]at this
    exact⟨hp.1,this⟩
   ·rw[if_neg e2];exact bg _ _ _ _
  ·rw[if_neg e]
   unfold Rep at hp ⊢
   have:=mM (g':=g') hg hp.2 (Or.inl e)
   rw[if_neg e]at this
   exact⟨hp.1,this⟩
 |.sub q h a b c,v,hp=>by
  unfold rg
  by_cases e:q=r
  ·rw[if_pos e]
   by_cases e2:h=g
   ·rw[if_pos e2]
    unfold Rep at hp ⊢
    have:=mM (g':=g') hg hp.2 (Or.inr e2)
    rw[if_pos e]at this
    exact⟨hp.1,this⟩
   ·rw[if_neg e2];exact bg _ _ _ _
  ·rw[if_neg e]
   unfold Rep at hp ⊢
   have:=mM (g':=g') hg hp.2 (Or.inl e)
   rw[if_neg e]at this
   exact⟨hp.1,this⟩
 |.iptr cs,v,h=>by unfold rg;exact bQ (k:=k) (n:=n) (k':=⟨k.ρ,fun x=>if x=r then g' else k.G x,k.Q,k.H⟩) rfl h
 |.ful _ _,v,h=>by unfold rg;exact uU (k:=k) (n:=n) (k':=⟨k.ρ,fun x=>if x=r then g' else k.G x,k.Q,k.H⟩) rfl h
 |.clo f cs,v,h=>by
  unfold rg
  unfold Rep at h ⊢
  obtain⟨vs,e,hl⟩:=h
  exact⟨vs,e,uZ cs vs hl⟩
theorem vo:∀(cs:List PV) (vs:List Value),aT k n w cs vs→aT ⟨k.ρ,fun x=>if x=r then g' else k.G x,k.Q,k.H⟩ n w (rgL r g g' cs) vs
 |[],vs,h=>by unfold rgL;unfold aT at h ⊢;exact h
 |c::cs,vs,h=>by
  unfold rgL
  unfold aT at h ⊢
  obtain⟨v,q,e,h0,h1,h2⟩:=h
  exact⟨v,q,e,h0,Gw c v h1,vo cs q h2⟩
theorem uZ:∀(cs:List PV) (vs:List Value),aI k n w cs vs→aI ⟨k.ρ,fun x=>if x=r then g' else k.G x,k.Q,k.H⟩ n w (rgL r g g' cs) vs
 |[],vs,h=>by unfold rgL;unfold aI at h ⊢;exact h
 |c::cs,vs,h=>by
  unfold rgL
  unfold aI at h ⊢
  obtain⟨v,q,e,h1,h2⟩:=h
  exact⟨v,q,e,Gw c v h1,uZ cs q h2⟩
end
theorem Cx {sz:Nat}:∀(cs:List PV) (xs:List Value),aL k n w sz cs xs→aL ⟨k.ρ,fun x=>if x=r then g' else k.G x,k.Q,k.H⟩ n w sz (rgL r g g' cs) xs
 |[],xs,h=>by unfold rgL;unfold aL at h ⊢;exact h
 |c::cs,xs,h=>by
  unfold rgL
  unfold aL at h ⊢
  obtain⟨v,q,e,h0,h1,h2,h3⟩:=h
  exact⟨v,q,e,h0,h1,Gw hg c v h2,Cx cs q h3⟩
end
theorem Weak.pK {Γ:Ctx} {E E':List PV} {B B':List Blk} (r:Nat) {x:Blk} (g':Nat) (hb:B[r]?=some x) (hin:B.all Gt=true) (h0:r < Γ.n0→Γ.k0.G r < g') (hE:rgL r (gen x) g' E=E') (hB:(B.map (rgB r (gen x) g')).set r (Pv.pK g' (rgB r (gen x) g' x))=B'):Weak Γ ⟨E,B⟩ ⟨E',B'⟩:=by
 rintro a w ⟨hd,k,hI,hT⟩
 have hg:k.G r=gen x:=qW (hI.blk r x hb)
 have hrl:r < B.length:=(List.getElem?_eq_some_iff.1 hb).1
 have hlen:B'.length=B.length:=by rw[←hB];simp
 let k':K:=⟨k.ρ,fun x=>if x=r then g' else k.G x,k.Q,k.H⟩
 have hat:∀q y,B'[q]?=some y→∃z,B[q]?=some z∧((q=r∧y=Pv.pK g' (rgB r (gen x) g' z))∨(q≠r∧y=rgB r (gen x) g' z)):=by
  intro q y hy
  rw[←hB]at hy
  by_cases e:q=r
  ·subst e
   rw[List.getElem?_set_self (by simpa using hrl)]at hy
   exact⟨x,hb,Or.inl ⟨rfl,(Option.some.inj hy).symm⟩⟩
  ·rw[List.getElem?_set_ne (Ne.symm e),List.getElem?_map]at hy
   cases hz:B[q]? with
   |none=>rw[hz]at hy;cases hy
   |some z=>rw[hz]at hy;exact⟨z,rfl,Or.inr ⟨e,(Option.some.inj hy).symm⟩⟩
 have hown:∀q y b,B'[q]?=some y→own k' q y=some b→∃z,B[q]?=some z∧own k q z=some b:=by
  intro q y b hy ho
  obtain⟨z,hz,h⟩:=hat q y hy
  refine⟨z,hz,?_⟩
  rcases h with ⟨_,h⟩|⟨_,h⟩<;>subst h<;>cases z<;>exact ho
 refine⟨hd,k',⟨hI.below,hI.lt,hI.le,hI.qs,hI.rr,fun gg cs hc=>bQ (k:=k) (n:=B.length) rfl (hI.gl gg cs hc),fun q y hy=>?_,fun q y b hy ho=>?_,fun q q' y y' b hy hy' ho ho'=>?_,⟨hI.kp.fr,by rw[hlen];exact hI.kp.ext.le,hI.kp.ext.q,fun q hq=>?_⟩,fun q y b hy ho=>?_,hI.hn⟩,?_⟩
 ·rw[hlen]
  obtain⟨z,hz,h⟩:=hat q y hy
  have hbk:=hI.blk q z hz
  rcases h with ⟨e,h⟩|⟨e,h⟩
  ·subst e;subst h
   have hzx:z=x:=by rw[hb]at hz;exact (Option.some.inj hz).symm
   subst hzx
   have hG:k'.G q=g':=by show (if q=q then g' else _)=_;simp
   cases z with
   |dead h=>exact hG
   |box h cs t=>
    obtain⟨_,b,c,ty,h3,h4,h5,h6⟩:=hbk
    exact⟨hG,b,c,ty,h3,h4,h5,vo hg cs _ h6⟩
   |row e' sz h es=>
    obtain⟨_,xs,h3,h4⟩:=hbk
    exact⟨hG,xs,by rw[CU];exact h3,Cx hg es _ h4⟩
   |map kk h ps=>exact⟨hG,hbk.2.any rfl rfl (List.all_eq_true.1 hin _ (List.mem_of_getElem? hz))⟩
  ·subst h
   have hG:k'.G q=k.G q:=by show (if q=r then g' else _)=_;rw[if_neg e]
   cases z with
   |dead h=>exact hG.trans hbk
   |box h cs t=>
    obtain⟨h2,b,c,ty,h3,h4,h5,h6⟩:=hbk
    exact⟨hG.trans h2,b,c,ty,h3,h4,h5,vo hg cs _ h6⟩
   |row e' sz h es=>
    obtain⟨h2,xs,h3,h4⟩:=hbk
    exact⟨hG.trans h2,xs,by rw[CU];exact h3,Cx hg es _ h4⟩
   |map kk h ps=>exact⟨hG.trans hbk.1,hbk.2.any rfl rfl (List.all_eq_true.1 hin _ (List.mem_of_getElem? hz))⟩
 ·obtain⟨z,hz,h⟩:=hown q y b hy ho
  exact hI.sep q z b hz h
 ·obtain⟨z,hz,h⟩:=hown q y b hy ho
  obtain⟨z',hz',h'⟩:=hown q' y' b hy' ho'
  exact hI.inj q q' z z' b hz hz' h h'
 ·obtain⟨h1,h2⟩:=hI.kp.ext.r q hq
  by_cases e:q=r
  ·subst e
   have:=h0 hq
   show _≤(if q=q then g' else _)∧((if q=q then g' else _)=_→_)
   rw[if_pos rfl]
   exact⟨by omega,fun e=>by omega⟩
  ·show _≤(if q=r then g' else _)∧((if q=r then g' else _)=_→_)
   rw[if_neg e]
   exact⟨h1,h2⟩
 ·obtain⟨z,hz,h⟩:=hown q y b hy ho
  exact hI.nf q z b hz h
 ·show aI k' B'.length w E' _
  rw[hlen,←hE]
  exact uZ hg E _ hT
def yO (T:Tb) (s:St) (K:PV→Prop):ResultVar→Prop
 |.tmp t=>K (s.E.getD t .any)
 |.cell t ty=>match T.td ty,s.E.getD t .any with
  |some d,.ptr r g off=>match s.B[r]? with
   |some (.box g' cs _)=>if g=g' then (match kg cs off d.size d.agg with
    |some p=>K p
    |none=>False) else False
   |_=>False
  |_,_=>False
def iO (T:Tb) (s:St):List ResultVar→(List PV→Prop)→Prop
 |[],K=>K []
 |r::rs,K=>yO T s (fun p=>iO T s rs fun ps=>K (p::ps)) r
def PK (T:Tb) (rs:List ResultVar) (fin:St→Prop):Exit→St→Prop
 |.normal,s|.ret,s=>iO T s rs fun ps=>bC ps fun ps=>fin ⟨ps,s.B⟩
 |_,_=>False
theorem Keeps.memo {Γ:Ctx} {k:K} {n:Nat} {w:World} (h:Keeps Γ k n w) {N:Nat} {w0:World} {X:Env} {Q0:Nat→Prop} {eqT:TypeId→Option (List CK)} {k0:K} {n0:Nat} {b:Nat} (hb:kept Γ k b):w.heap[b]?=Pv.memo ⟨N,w0,X,Q0,eqT,Γ.F,w,k0,n0⟩ k b:=by
 have h1:=(h.fr b hb).2.1
 unfold Pv.memo at h1 ⊢
 split
 ·rfl
 ·rename_i hF
  rwa [if_neg hF]at h1
theorem PCB.Ic {P:Program} {X:Env} {T:Tb} (hX:dW P T.eq) (hT:∀t d,T.td t=some d→aJ P t=some d) {f:FuncId} {fn:Func} {c:Code} {args:List PV} {res:List PV} {B B':List Blk}
  (hf : P.funcs[f]? = some fn) (hb : fn.body = some c) (hn : (fn.name == "runtime.NumGoroutine") = false) (hlen : B'.length = B.length)
  (h:∀Γ:Ctx,Γ.X=X→Γ.eqT=T.eq→Γ.n0=B.length→(∀r x,B[r]?=some x→Γ.k0.G r=gen x)→AWp P Γ c ⟨args++List.replicate (fn.ntmps - args.length) .any,B⟩ (PK T fn.results.toList (fun s=>Weak Γ s ⟨res,B'⟩))):PCB P X f args B res B':=by
 refine⟨enters_of hf hb hn,hlen,fun Γ0 k w vs hΓX hI hvs=>?_⟩
 let Γ:Ctx:=⟨Γ0.N,Γ0.w0,Γ0.X,Γ0.Q0,T.eq,Γ0.F,w,k,B.length⟩
 have hI1:Inv Γ k B w:=⟨hI.below,hI.lt,hI.le,hI.qs,hI.rr,hI.gl,hI.blk,hI.sep,hI.inj,⟨fun b hb=>⟨(hI.kp.fr b hb).1,hI.kp.memo hb,(hI.kp.fr b hb).2.2⟩,Ext.refl _ _ _⟩,hI.nf,hI.hn⟩
 have hl:args.length=vs.length:=nZ hvs
 have hany:∀n,aI k B.length w (List.replicate n .any) (List.replicate n undef):=by
  intro n
  induction n with
  |zero=>simp[aI]
  |succ n ih=>simp only[List.replicate_succ];unfold aI;exact⟨undef,_,rfl,bg _ _ _ _,ih⟩
 have h2:AWp P Γ c ⟨args++List.replicate (fn.ntmps - args.length) .any,B⟩ (PK T fn.results.toList (fun s=>Weak Γ s ⟨res,B'⟩)):=h Γ hΓX rfl rfl (fun r x hx=>qW (hI.blk r x hx))
 have hγ:∀a,a.defers=[]→a.tmps.toList=vs++List.replicate (fn.ntmps - args.length) undef→γ Γ ⟨args++List.replicate (fn.ntmps - args.length) .any,B⟩ a w:=fun a hd ha=>⟨hd,k,hI1,by rw[ha];exact mU hvs (hany _)⟩
 refine calls_of_wp hf hb (wp_mono (h2 hX _ w (hγ _ rfl ?_)) ?_)
 ·show (vs.toArray++Array.replicate (fn.ntmps - vs.toArray.size) undef).toList=_
  simp[hl]
 ·rintro e a' w' ⟨s',h3,hd,k',hI',hT'⟩
  have one1:∀(r:ResultVar) (K:PV→Prop),yO T s' K r→∃p v,K p∧(yH a'.tmps r).run P w'=.ok v w'∧Rep k' s'.B.length w' p v:=by
   intro r K hv
   cases r with
   |tmp t=>exact⟨_,_,hv,rfl,dP hI' hT' (.tmp t)⟩
   |cell t ty=>
    unfold yO at hv
    simp only at hv
    split at hv
    ·rename_i d r g off hdd hx
     split at hv
     ·rename_i g' cs bt hb
      split at hv
      ·rename_i hg
       subst hg
       split at hv
       ·rename_i p hp
        have e:=dP hI' hT' (.tmp t)
        have e2:pev Γ s'.E (.tmp t)=.ptr r g off:=hx
        rw[e2]at e
        obtain⟨b,c,cty,ev,_,_,_,hh,hL⟩:=j3 hI' e hb
        obtain⟨v,hrun,hrep⟩:=jB (P:=P) (w:=w') (hT _ _ hdd) (b:=b) hL (fun j u hj=>by rw[World.cell?,hh];simpa using hj) hp
        refine⟨p,v,hv,?_,hrep⟩
        have ev':a'.tmps.getD t undef=.pointer (some ⟨b,off,none⟩):=ev
        simp only[Instr.loadAt,Instr.sureAddr,Sem.run_bind,Sem.run_pure,Result.andThen_ok]at hrun
        unfold yH
        simp only[ev',asAddr,Sem.run_bind,Sem.run_pure,Result.andThen_ok]
        exact hrun
       ·exact hv.elim
      ·exact hv.elim
     ·exact hv.elim
    ·exact hv.elim
  have many:∀(rs:List ResultVar) (K:List PV→Prop),iO T s' rs K→∃ps vs,K ps∧(rs.mapM (yH a'.tmps)).run P w'=.ok vs w'∧aI k' s'.B.length w' ps vs:=by
   intro rs
   induction rs with
   |nil=>intro K h;exact⟨[],[],h,rfl,by simp[aI]⟩
   |cons r rs ih=>
    intro K h
    unfold iO at h
    obtain⟨p,v,h4,h5,h6⟩:=one1 r _ h
    obtain⟨ps,vs,h7,h8,h9⟩:=ih _ h4
    refine⟨p::ps,v::vs,h7,?_,by unfold aI;exact⟨v,vs,rfl,h6,h9⟩⟩
    rw[List.mapM_cons,Sem.run_bind]
    rw[h5]
    rw[Result.andThen_ok,Sem.run_bind,h8]
    rfl
  have fin:(iO T s' fn.results.toList fun ps=>bC ps fun ps=>Weak Γ ⟨ps,s'.B⟩ ⟨res,B'⟩)→a'.defers=[]∧∃v,(results fn a'.tmps).run P w'=.ok v w'∧∃u k'',Ending.returned v=.returned u∧Ext k B.length w k'' B.length w'∧Inv Γ0 k'' B' w'∧Rep k'' B.length w' (qP res) u:=by
   intro h
   obtain⟨ps,us,h4,h5,h6⟩:=many _ _ h
   rw[cZ]at h4
   have hres:(results fn a'.tmps).run P w'=.ok (if hh:us.toArray.size=1 then us.toArray[0] else .tuple us.toArray) w':=by
    rw[pW,Sem.run_bind,show fn.results=fn.results.toList.toArray by simp,List.mapM_toArray,Sem.run_map]
    rw[h5]
    rfl
   obtain⟨_,k2,hI2,hT2⟩:=h4 { a' with tmps:=us.toArray } w' ⟨hd,k',hI',by simpa using h6⟩
   have hT3:aI k2 B'.length w' res us:=by simpa using hT2
   rw[hlen]at hT3
   refine⟨hd,_,hres,_,k2,rfl,hI2.kp.ext |> fun h=>⟨Nat.le_refl _,h.q,h.r⟩,⟨hI2.below,hI2.lt,hI2.le,hI2.qs,hI2.rr,hI2.gl,hI2.blk,hI2.sep,hI2.inj,⟨fun b hb=>?_,?_⟩,hI2.nf,hI2.hn⟩,?_⟩
   ·obtain⟨g1,g2,g3⟩:=hI2.kp.fr b hb
    refine⟨g1,?_,g3⟩
    unfold memo at g2 ⊢
    split
    ·rename_i hF
     rw[if_pos hF]at g2
     have g4:=(hI.kp.fr b (Or.inl hF)).2.1
     unfold memo at g4
     rw[if_pos hF]at g4
     exact g2.trans g4
    ·rename_i hF
     rwa [if_neg hF]at g2
   ·have h9:=hI.kp.ext.trans (hI2.kp.ext |> fun h=>(⟨Nat.le_refl _,h.q,h.r⟩:Ext k B.length w k2 B.length w'))
    rw[hlen]
    exact h9
   ·have hlr:=nZ hT3
    match res,us,hT3,hlr with
    |[],[],h,_=>unfold qP Rep;exact⟨[],rfl,h⟩
    |[p],[v],h,_=>
     unfold aI at h
     obtain⟨v',r,e,h7,_⟩:=h
     injection e with e1 _
     subst e1
     exact h7
    |p::q::ps,v::u::vs,h,_=>unfold qP Rep;exact⟨_,by simp,h⟩
  cases e with
  |normal=>exact fin h3
  |ret=>exact fin h3
  |exit _=>exact h3.elim
  |goto _=>exact h3.elim
  |panic _=>exact h3.elim
  |outgrown=>exact h3.elim
theorem zk {P:Program} {T:Tb} (hT:∀t d,T.td t=some d→aJ P t=some d) {Γ:Ctx} {k:K} {s:St} {w:World} {a:Act} (hI:Inv Γ k s.B w) (hR:aI k s.B.length w s.E a.tmps.toList):∀(rs:List ResultVar) (M:List PV→Prop),iO T s rs M→∃ps vs,M ps∧(rs.mapM (yH a.tmps)).run P w=.ok vs w∧aI k s.B.length w ps vs
 |[],M,h=>⟨[],[],h,rfl,by simp[aI]⟩
 |r::rs,M,h=>by
  have one1:∀(r:ResultVar) (K:PV→Prop),yO T s K r→∃p v,K p∧(yH a.tmps r).run P w=.ok v w∧Rep k s.B.length w p v:=by
   intro r K hv
   cases r with
   |tmp t=>exact⟨_,_,hv,rfl,dP hI hR (.tmp t)⟩
   |cell t ty=>
    unfold yO at hv
    simp only at hv
    split at hv
    ·rename_i d r g off hdd hx
     split at hv
     ·rename_i g' cs bt hb
      split at hv
      ·rename_i hg
       subst hg
       split at hv
       ·rename_i p hp
        have e:=dP hI hR (.tmp t)
        have e2:pev Γ s.E (.tmp t)=.ptr r g off:=hx
        rw[e2]at e
        obtain⟨b,c,cty,ev,_,_,_,hh,hL⟩:=j3 hI e hb
        obtain⟨v,hrun,hrep⟩:=jB (P:=P) (w:=w) (hT _ _ hdd) (b:=b) hL (fun j u hj=>by rw[World.cell?,hh];simpa using hj) hp
        refine⟨p,v,hv,?_,hrep⟩
        have ev':a.tmps.getD t undef=.pointer (some ⟨b,off,none⟩):=ev
        simp only[Instr.loadAt,Instr.sureAddr,Sem.run_bind,Sem.run_pure,Result.andThen_ok]at hrun
        unfold yH
        simp only[ev',asAddr,Sem.run_bind,Sem.run_pure,Result.andThen_ok]
        exact hrun
       ·exact hv.elim
      ·exact hv.elim
     ·exact hv.elim
    ·exact hv.elim
  unfold iO at h
  obtain⟨p,v,h4,h5,h6⟩:=one1 r _ h
  obtain⟨ps,vs,h7,h8,h9⟩:=zk hT hI hR rs _ h4
  refine⟨p::ps,v::vs,h7,?_,by unfold aI;exact⟨v,vs,rfl,h6,h9⟩⟩
  rw[List.mapM_cons,Sem.run_bind]
  rw[h5]
  rw[Result.andThen_ok,Sem.run_bind,h8]
  rfl
theorem PCR.Ic {P:Program} {X:Env} {T:Tb} (hX:dW P T.eq) (hT:∀t d,T.td t=some d→aJ P t=some d) {f:FuncId} {fn:Func} {c:Code} {args:List IV} {e:TypeId} {sz:Nat} {is:List IV}
  (hf : P.funcs[f]? = some fn) (hb : fn.body = some c) (hn : (fn.name == "runtime.NumGoroutine") = false)
  (h:∀Γ:Ctx,Γ.X=X→Γ.eqT=T.eq→Γ.n0=0→AWp P Γ c ⟨args.map .imm++List.replicate (fn.ntmps - args.length) .any,[]⟩ (PK T fn.results.toList (fun s=>∃r g B',Weak Γ s ⟨[.row r g],B'⟩∧B'[r]?=some (.row e sz g (is.map .imm))))):PCR P X f args e sz is:=by
 refine⟨enters_of hf hb hn,fun Q w vs hQ hgl hR hvs=>?_⟩
 let k:K:=⟨fun _=>undef,fun _=>0,Q,fun _=>none⟩
 let Γ:Ctx:=⟨w.heap.size,w,X,Q,T.eq,fun _=>False,w,k,0⟩
 have hI:Inv Γ k [] w:=⟨Below.refl _ _,hQ,Nat.le_refl _,fun b hb=>Or.inl hb,⟨w,hR,Nat.le_refl _,Below.refl _ _⟩,fun g cs hc=>bQ (k:=⟨fun _=>undef,fun _=>0,Q,fun _=>none⟩) (n:=0) rfl (hgl g cs hc),fun r x hx=>by simp at hx,fun r x b hx=>by simp at hx,fun r r' x x' b hx=>by simp at hx,⟨fun b hb=>(hb.elim (fun h=>h) (fun h=>h rfl):False).elim,Ext.refl _ _ _⟩,fun r x b hx=>by simp at hx,fun _ _ h=>by cases h⟩
 have hlen:args.length=vs.length:=by
  have h1:aI k 0 w (args.map .imm) vs:=jw hvs
  have:=nZ h1
  simpa using this
 have hany:∀n,aI k 0 w (List.replicate n .any) (List.replicate n undef):=by
  intro n
  induction n with
  |zero=>simp[aI]
  |succ n ih=>simp only[List.replicate_succ];unfold aI;exact⟨undef,_,rfl,bg _ _ _ _,ih⟩
 have h2:AWp P Γ c ⟨args.map .imm++List.replicate (fn.ntmps - args.length) .any,[]⟩ (PK T fn.results.toList (fun s=>∃r g B',Weak Γ s ⟨[.row r g],B'⟩∧B'[r]?=some (.row e sz g (is.map .imm)))):=h Γ rfl rfl rfl
 refine calls_of_wp hf hb (wp_mono (h2 hX _ w ⟨rfl,k,hI,?_⟩) ?_)
 ·have h1:aI k 0 w (args.map .imm) vs:=jw hvs
  have h2:=mU h1 (hany (fn.ntmps - args.length))
  have e:(vs.toArray++Array.replicate (fn.ntmps - vs.toArray.size) undef).toList=vs++List.replicate (fn.ntmps - args.length) undef:=by
   simp[hlen]
  rw[e]
  exact h2
 ·rintro ex a' w' ⟨s',h3,hd,k',hI',hT'⟩
  have fin:(iO T s' fn.results.toList fun ps=>bC ps fun ps=>∃r g B',Weak Γ ⟨ps,s'.B⟩ ⟨[.row r g],B'⟩∧B'[r]?=some (.row e sz g (is.map .imm)))→a'.defers=[]∧∃v,(results fn a'.tmps).run P w'=.ok v w'∧
    ∃u Q' xs,Ending.returned v=.returned u∧Below w.heap.size w w'∧(∀b,Q b→Q' b)∧(∀b,Q' b→(Q b∨w.heap.size≤b)∧b < w'.heap.size)∧w'.ownsRow w.heap.size e sz u is.length xs∧aL ⟨fun _=>undef,fun _=>0,Q',fun _=>none⟩ 0 w' sz (is.map .imm) xs∧∀b,base u=some b→¬Q' b∧b < w'.heap.size:=by
   intro h
   obtain⟨ps,us,h4,h5,h6⟩:=zk hT hI' hT' _ _ h
   rw[cZ]at h4
   obtain⟨r,g,B',hw,hBr⟩:=h4
   have hres:(results fn a'.tmps).run P w'=.ok (if hh:us.toArray.size=1 then us.toArray[0] else .tuple us.toArray) w':=by
    rw[pW,Sem.run_bind,show fn.results=fn.results.toList.toArray by simp,List.mapM_toArray,Sem.run_map]
    rw[h5]
    rfl
   obtain⟨_,k2,hI2,hT2⟩:=hw { a' with tmps:=us.toArray } w' ⟨hd,k',hI',by simpa using h6⟩
   have hT3:aI k2 B'.length w' [.row r g] us:=by simpa using hT2
   unfold aI at hT3
   obtain⟨v,r',e1,h7,h8⟩:=hT3
   unfold aI at h8
   subst h8
   subst e1
   obtain⟨xs,hv,hown,hrE,_⟩:=dD (s:=⟨[],B'⟩) hI2 h7 hBr
   refine⟨hd,_,hres,v,k2.Q,xs,rfl,hI2.below,fun b hb=>(hI2.kp.ext.q b hb).1,fun b hb=>⟨hI2.qs b hb,hI2.lt b hb⟩,?_,oQ (k:=k2) (k':=⟨fun _=>undef,fun _=>0,k2.Q,fun _=>none⟩) (n:=B'.length) rfl hrE,fun b hb=>?_⟩
   ·rw[hv]
    rw[List.length_map]at hown
    exact hown
   ·obtain⟨g1,_,g3⟩:=hI2.sep r _ b hBr (by show base (k2.ρ r)=some b;rw[←hv];exact hb)
    exact⟨g1,g3⟩
  cases ex with
  |normal=>exact fin h3
  |ret=>exact fin h3
  |exit _=>exact h3.elim
  |goto _=>exact h3.elim
  |panic _=>exact h3.elim
  |outgrown=>exact h3.elim
theorem PCR.pc {P:Program} {X:Env} {f:FuncId} {args:List IV} {e:TypeId} {sz:Nat} {is:List IV} (h:PCR P X f args e sz is):PC P X f args [.sl sz is]:=by
 refine⟨h.1,fun Q w vs hQ hg hR hvs=>(h.2 Q w vs hQ hg hR hvs).mono ?_⟩
 rintro en w' ⟨v,Q',xs,rfl,hb,hq,hq',hown,hE,hbv⟩
 have hge:∀b,base v=some b→w.heap.size≤b:=fun b hb'=>by
  rcases hown.2 with ⟨h1,_⟩|⟨b',cap,cur,h1,h2,_⟩
  ·rw[h1]at hb';cases hb'
  ·rw[h1]at hb'
   simp only[base,Option.some.injEq]at hb'
   omega
 refine⟨v,fun b=>Q' b∨base v=some b,rfl,hb,fun b hb'=>Or.inl (hq b hb'),fun b hb'=>?_,?_⟩
 ·rcases hb' with h1|h1
  ·exact hq' b h1
  ·exact⟨Or.inr (hge b h1),(hbv b h1).2⟩
 ·show aF _ w' (.sl sz is) v
  unfold aF
  rcases hown.2 with ⟨e1,e2⟩|⟨b,cap,cur,e1,e2,e3,e4,e5,_⟩
  ·exact⟨none,0,by rw[e2];exact e1,by omega,Nat.zero_le _,fun hp=>absurd hp (by omega)⟩
  ·refine⟨some ⟨b,0,none⟩,cap,e1,by omega,e5,fun _=>⟨b,0,rfl,Or.inr (by rw[e1];rfl),?_⟩⟩
   refine mJ (k:=⟨fun _=>undef,fun _=>0,Q',fun _=>none⟩) (fun b hb=>⟨Or.inl hb,rfl⟩) is xs b 0 hE (fun j u hj=>?_)
   have:=hown.cells (g:=b) (by rw[e1];rfl) j u hj
   rw[Nat.zero_add]
   have hadd:(⟨b,0,none⟩:Addr).add j=⟨b,j,none⟩:=add0 b j
   rw[hadd]at this
   exact this
end Go.Pv
namespace Go.Pv
open Go.RowKit (Below)
set_option linter.unusedSimpArgs false
set_option linter.unusedSectionVars false
def BR:Value:=.slice none 0 0
theorem JA {Γ:Ctx} {k:K} {B:List Blk} {w:World} (hI:Inv Γ k B w) (e:TypeId) (sz:Nat) :
  ∃k':K,Ext k B.length w k' (B.length+1) w∧k'.ρ B.length=BR∧k'.G B.length=1∧Inv Γ k' (B++[.row e sz 1 []]) w:=by
 let k':K:=⟨fun r=>if r=B.length then BR else k.ρ r,fun r=>if r=B.length then 1 else k.G r,k.Q,k.H⟩
 have hρ:k'.ρ B.length=BR:=by show (if B.length=B.length then BR else _)=_;simp
 have hG:k'.G B.length=1:=by show (if B.length=B.length then 1 else _)=_;simp
 have hρ':∀r,r≠B.length→k'.ρ r=k.ρ r:=fun r h=>by show (if r=B.length then BR else _)=_;rw[if_neg h]
 have hG':∀r,r≠B.length→k'.G r=k.G r:=fun r h=>by show (if r=B.length then 1 else _)=_;rw[if_neg h]
 have he:Ext k B.length w k' (B.length+1) w:=⟨by omega,fun b hb=>⟨hb,rfl⟩,fun r hr=>by rw[hρ' r (by omega),hG' r (by omega)];exact⟨Nat.le_refl _,fun _=>rfl⟩⟩
 have hat:∀r x,(B++[Blk.row e sz 1 []])[r]?=some x→(r < B.length∧B[r]?=some x)∨(r=B.length∧x=.row e sz 1 []):=fun r x h=>by
  by_cases hr:r < B.length
  ·rw[List.getElem?_append_left hr]at h
   exact Or.inl ⟨hr,h⟩
  ·rw[List.getElem?_append_right (by omega)]at h
   have:r - B.length=0:=by
    have:=(List.getElem?_eq_some_iff.1 h).1
    simp at this
    omega
   rw[this]at h
   exact Or.inr ⟨by omega,by simpa using h.symm⟩
 have hown:∀r x b,(B++[Blk.row e sz 1 []])[r]?=some x→own k' r x=some b→B[r]?=some x∧own k r x=some b:=fun r x b hx hb=>by
  rcases hat r x hx with ⟨h1,h2⟩|⟨h1,h2⟩
  ·rw[fG (hρ' r (by omega))]at hb
   exact⟨h2,hb⟩
  ·subst h1;subst h2
   simp only[own,hρ,BR,base]at hb
   cases hb
 have hlen:(B++[Blk.row e sz 1 []]).length=B.length+1:=by simp
 refine⟨k',he,hρ,hG,⟨hI.below,hI.lt,hI.le,hI.qs,hI.rr,fun gg cs hc=>bQ (k:=k) (n:=B.length) rfl (hI.gl gg cs hc),fun r x hx=>?_,fun r x b hx hb=>?_,fun r r' x x' b hx hx' hb hb'=>?_,⟨hI.kp.fr,by rw[hlen];exact hI.kp.ext.trans he⟩,fun r x b hx hb=>?_,hI.hn⟩⟩
 ·rw[hlen]
  rcases hat r x hx with ⟨h1,h2⟩|⟨h1,h2⟩
  ·have hbk:=hI.blk r x h2
   cases x with
   |dead g=>exact (hG' r (by omega)).trans hbk
   |box g cs t=>
    obtain⟨h3,b,c,ty,h4,h5,h6,h7⟩:=hbk
    exact⟨(hG' r (by omega)).trans h3,b,c,ty,by rw[hρ' r (by omega)];exact h4,h5,h6,fT he _ _ h7⟩
   |row e' sz' g es=>
    obtain⟨h3,xs,h4,h5⟩:=hbk
    exact⟨(hG' r (by omega)).trans h3,xs,by rw[hρ' r (by omega)];exact h4,bf he _ _ h5⟩
   |map kk g ps=>exact⟨(hG' r (by omega)).trans hbk.1,by rw[hρ' r (by omega)];exact hbk.2.same he (fun _ _ h=>h)⟩
  ·subst h1;subst h2
   exact⟨hG,[],by rw[hρ];exact⟨by simp,Or.inl ⟨rfl,rfl⟩⟩,by unfold aL;rfl⟩
 ·obtain⟨h1,h2⟩:=hown r x b hx hb
  exact hI.sep r x b h1 h2
 ·obtain⟨h1,h2⟩:=hown r x b hx hb
  obtain⟨h3,h4⟩:=hown r' x' b hx' hb'
  exact hI.inj r r' x x' b h1 h3 h2 h4
 ·obtain⟨h1,h2⟩:=hown r x b hx hb
  exact hI.nf r x b h1 h2
theorem EP {Γ:Ctx} {k:K} {B:List Blk} {w:World} (hI:Inv Γ k B w) {b g:Nat} {cs cs':List PV} {t:Option TypeId} (hb:B[b]?=some (.box g cs t)) (h:∀vs,aT k B.length w cs vs→aT k B.length w cs' vs):Inv Γ k (B.set b (.box g cs' t)) w:=by
 have hlen:(B.set b (.box g cs' t)).length=B.length:=List.length_set
 have hbl:b < B.length:=(List.getElem?_eq_some_iff.1 hb).1
 have hat:∀r x,(B.set b (Blk.box g cs' t))[r]?=some x→(r=b∧x=.box g cs' t)∨(r≠b∧B[r]?=some x):=fun r x hx=>by
  by_cases e:r=b
  ·subst e
   rw[List.getElem?_set_self hbl]at hx
   exact Or.inl ⟨rfl,(Option.some.inj hx).symm⟩
  ·rw[List.getElem?_set_ne (Ne.symm e)]at hx
   exact Or.inr ⟨e,hx⟩
 have hown:∀r x y,(B.set b (Blk.box g cs' t))[r]?=some x→own k r x=some y→∃z,B[r]?=some z∧own k r z=some y:=fun r x y hx hy=>by
  rcases hat r x hx with ⟨h1,h2⟩|⟨h1,h2⟩
  ·subst h1;subst h2;exact⟨_,hb,hy⟩
  ·exact⟨_,h2,hy⟩
 refine⟨hI.below,hI.lt,hI.le,hI.qs,hI.rr,fun gg cs hc=>bQ (k:=k) (n:=B.length) rfl (hI.gl gg cs hc),fun r x hx=>?_,fun r x y hx hy=>?_,fun r r' x x' y hx hx' hy hy'=>?_,⟨hI.kp.fr,by rw[hlen];exact hI.kp.ext⟩,fun r x y hx hy=>?_,hI.hn⟩
 ·rw[hlen]
  rcases hat r x hx with ⟨h1,h2⟩|⟨h1,h2⟩
  ·subst h1;subst h2
   obtain⟨h3,b,c,ty,h4,h5,h6,h7⟩:=hI.blk _ _ hb
   exact⟨h3,b,c,ty,h4,h5,h6,h _ h7⟩
  ·exact hI.blk r x h2
 ·obtain⟨z,h1,h2⟩:=hown r x y hx hy
  exact hI.sep r z y h1 h2
 ·obtain⟨z,h1,h2⟩:=hown r x y hx hy
  obtain⟨z',h3,h4⟩:=hown r' x' y hx' hy'
  exact hI.inj r r' z z' y h1 h3 h2 h4
 ·obtain⟨z,h1,h2⟩:=hown r x y hx hy
  exact hI.nf r z y h1 h2
theorem Jf {k:K} {n m:Nat} {w:World} (hm:m < n) (hρ:k.ρ m=BR) (hG:k.G m=1) {v:Value} (h:Rep k n w (.imm .nil) v):Rep k n w (.row m 1) v:=by
 rw[aB]at h
 unfold aF at h
 subst h
 unfold Rep
 exact⟨rfl,hm,by omega,fun _=>hρ.symm⟩
theorem Az {k:K} {n m:Nat} {w:World} (hm:m < n) (hρ:k.ρ m=BR) (hG:k.G m=1):∀{cs:List PV} {vs:List Value} {i:Nat},cs[i]?=some (.imm .nil)→aT k n w cs vs→aT k n w (cs.set i (.row m 1)) vs
 |[],_,_,h,_=>by simp at h
 |c::cs,vs,0,h,hr=>by
  simp only[List.getElem?_cons_zero,Option.some.injEq]at h
  subst h
  unfold aT at hr
  obtain⟨v,r,e,h0,h1,h2⟩:=hr
  simp only[List.set_cons_zero]
  unfold aT
  exact⟨v,r,e,h0,Jf hm hρ hG h1,h2⟩
 |c::cs,vs,i+1,h,hr=>by
  unfold aT at hr
  obtain⟨v,r,e,h0,h1,h2⟩:=hr
  simp only[List.set_cons_succ]
  unfold aT
  exact⟨v,r,e,h0,h1,Az hm hρ hG (by simpa using h) h2⟩
theorem Ag {k:K} {n m:Nat} {w:World} (hm:m < n) (hρ:k.ρ m=BR) (hG:k.G m=1):∀{cs:List PV} {vs:List Value} {i:Nat},cs[i]?=some (.imm .nil)→aI k n w cs vs→aI k n w (cs.set i (.row m 1)) vs
 |[],_,_,h,_=>by simp at h
 |c::cs,vs,0,h,hr=>by
  simp only[List.getElem?_cons_zero,Option.some.injEq]at h
  subst h
  unfold aI at hr
  obtain⟨v,r,e,h1,h2⟩:=hr
  simp only[List.set_cons_zero]
  unfold aI
  exact⟨v,r,e,Jf hm hρ hG h1,h2⟩
 |c::cs,vs,i+1,h,hr=>by
  unfold aI at hr
  obtain⟨v,r,e,h1,h2⟩:=hr
  simp only[List.set_cons_succ]
  unfold aI
  exact⟨v,r,e,h1,Ag hm hρ hG (by simpa using h) h2⟩
theorem Weak.lZ {Γ:Ctx} {E:List PV} {B:List Blk} (t:Nat) (e:TypeId) (sz:Nat) (hE:E[t]?=some (.imm .nil)):Weak Γ ⟨E,B⟩ ⟨E.set t (.row B.length 1),B++[.row e sz 1 []]⟩:=by
 rintro a w ⟨hd,k,hI,hT⟩
 obtain⟨k',he,h1,h2,hI'⟩:=JA hI e sz
 refine⟨hd,k',hI',?_⟩
 have hlen:(B++[Blk.row e sz 1 []]).length=B.length+1:=by simp
 show aI k' (B++[Blk.row e sz 1 []]).length w _ _
 rw[hlen]
 exact Ag (m:=B.length) (by omega) h1 h2 hE (bU he _ _ hT)
theorem Weak.BU {Γ:Ctx} {E:List PV} {B:List Blk} (b i:Nat) (e:TypeId) (sz:Nat) {g:Nat} {cs:List PV} {t:Option TypeId} (hb:B[b]?=some (.box g cs t)) (hc:cs[i]?=some (.imm .nil)):Weak Γ ⟨E,B⟩ ⟨E,(B++[Blk.row e sz 1 []]).set b (.box g (cs.set i (.row B.length 1)) t)⟩:=by
 rintro a w ⟨hd,k,hI,hT⟩
 obtain⟨k',he,h1,h2,hI'⟩:=JA hI e sz
 have hlen:(B++[Blk.row e sz 1 []]).length=B.length+1:=by simp
 have hb':(B++[Blk.row e sz 1 []])[b]?=some (.box g cs t):=by rw[List.getElem?_append_left (List.getElem?_eq_some_iff.1 hb).1];exact hb
 refine⟨hd,k',EP hI' hb' (fun vs h=>Az (m:=B.length) (by rw[hlen];omega) h1 h2 hc h),?_⟩
 show aI k' ((B++[Blk.row e sz 1 []]).set b _).length w _ _
 rw[List.length_set,hlen]
 exact bU he _ _ hT
end Go.Pv
namespace Go.Pv
def look:List (TypeId×TD)→TypeId→Option TD
 |[],_=>none
 |(t,d)::l,u=>match Nat.decEq t u with
  |isTrue _=>some d
  |isFalse _=>look l u
def EW (P:Program):List (TypeId×TD)→Prop
 |[]=>True
 |(t,d)::l=>aJ P t=some d∧EW P l
theorem look_ok {P:Program}:∀{l:List (TypeId×TD)},EW P l→∀t d,look l t=some d→aJ P t=some d
 |[],_,t,d,h=>by cases h
 |(s,e)::l,ha,t,d,h=>by
  obtain⟨h1,h2⟩:=ha
  unfold look at h
  split at h
  ·rename_i he _
   subst he
   cases h
   exact h1
  ·exact look_ok h2 t d h
end Go.Pv
namespace Go.Pv
def bM (f:List PV→List PV):List Blk→Prop
 |[]=>True
 |.row _ _ _ es::l=>f es=es∧bM f l
 |.map kk _ _::l=>allIn kk=true∧bM f l
 |.dead _::l=>bM f l
 |.box _ _ _::l=>bM f l
theorem bM.all {f:List PV→List PV}:∀{B:List Blk},bM f B→B.all Gt=true
 |[],_=>rfl
 |.row _ _ _ _::l,h=>by rw[List.all_cons,bM.all h.2];rfl
 |.map kk _ _::l,h=>by rw[List.all_cons,bM.all h.2,show Gt (.map kk _ _)=true from h.1];rfl
 |.dead _::l,h=>by rw[List.all_cons,bM.all (B:=l) h];rfl
 |.box _ _ _::l,h=>by rw[List.all_cons,bM.all (B:=l) h];rfl
def KL (r g g':Nat):Blk→Blk
 |.dead h=>.dead h
 |.box h cs t=>.box h (rgL r g g' cs) t
 |.row e sz h es=>.row e sz h es
 |.map kk h ps=>.map kk h ps
def Rv (r g:Nat) (i:IV):Blk→Blk
 |.dead h=>.dead h
 |.box h cs t=>.box h (fzL r g i cs) t
 |.row e sz h es=>.row e sz h es
 |.map kk h ps=>.map kk h ps
theorem xI {r g g':Nat}:∀{B:List Blk},bM (rgL r g g') B→B.map (rgB r g g')=B.map (KL r g g')
 |[],_=>rfl
 |.dead h::l,hr=>by simp only[List.map_cons,xI (B:=l) hr];rfl
 |.box h cs t::l,hr=>by simp only[List.map_cons,xI (B:=l) hr];rfl
 |.map kk h ps::l,hr=>by simp only[List.map_cons,xI (B:=l) hr.2];rfl
 |.row e sz h es::l,hr=>by
  simp only[List.map_cons,xI (B:=l) hr.2]
  show Blk.row e sz h (rgL r g g' es)::_=Blk.row e sz h es::_
  rw[hr.1]
theorem yc {r g:Nat} {i:IV}:∀{B:List Blk},bM (fzL r g i) B→B.map (fzB r g i)=B.map (Rv r g i)
 |[],_=>rfl
 |.dead h::l,hr=>by simp only[List.map_cons,yc (B:=l) hr];rfl
 |.box h cs t::l,hr=>by simp only[List.map_cons,yc (B:=l) hr];rfl
 |.map kk h ps::l,hr=>by simp only[List.map_cons,yc (B:=l) hr.2];rfl
 |.row e sz h es::l,hr=>by
  simp only[List.map_cons,yc (B:=l) hr.2]
  show Blk.row e sz h (fzL r g i es)::_=Blk.row e sz h es::_
  rw[hr.1]
theorem bM.at {f:List PV→List PV}:∀{B:List Blk} {r:Nat} {e:TypeId} {sz h:Nat} {es:List PV},bM f B→B[r]?=some (.row e sz h es)→f es=es
 |[],_,_,_,_,_,_,hb=>by simp at hb
 |.dead _::l,0,_,_,_,_,_,hb=>by simp at hb
 |.box _ _ _::l,0,_,_,_,_,_,hb=>by simp at hb
 |.map _ _ _::l,0,_,_,_,_,_,hb=>by simp at hb
 |.row _ _ _ _::l,0,_,_,_,_,hr,hb=>by
  simp only[List.getElem?_cons_zero,Option.some.injEq,Blk.row.injEq]at hb
  obtain⟨_,_,_,rfl⟩:=hb
  exact hr.1
 |.dead _::l,r+1,_,_,_,_,hr,hb=>bM.at (B:=l) hr (by simpa using hb)
 |.box _ _ _::l,r+1,_,_,_,_,hr,hb=>bM.at (B:=l) hr (by simpa using hb)
 |.map _ _ _::l,r+1,_,_,_,_,hr,hb=>bM.at (B:=l) hr.2 (by simpa using hb)
 |.row _ _ _ _::l,r+1,_,_,_,_,hr,hb=>bM.at (B:=l) hr.2 (by simpa using hb)
theorem Weak.renew {Γ:Ctx} {E:List PV} {B:List Blk} (r g':Nat) {e:TypeId} {sz g:Nat} {es:List PV} (hb:B[r]?=some (.row e sz g es)) (h0:r < Γ.n0→Γ.k0.G r < g') (hr:bM (rgL r g g') B):Weak Γ ⟨E,B⟩ ⟨rgL r g g' E,(B.map (KL r g g')).set r (.row e sz g' es)⟩:=by
 refine Weak.pK r g' hb hr.all h0 rfl ?_
 show (B.map (rgB r g g')).set r (Pv.pK g' (rgB r g g' (.row e sz g es)))=_
 rw[xI hr]
 have:Pv.pK g' (rgB r g g' (.row e sz g es))=.row e sz g' es:=by
  show Blk.row e sz g' (rgL r g g' es)=_
  rw[hr.at hb]
 rw[this]
theorem Weak.frozen {Γ:Ctx} {E:List PV} {B:List Blk} (r:Nat) {e:TypeId} {sz g:Nat} {es:List PV} (is:List IV) (hb:B[r]?=some (.row e sz g es)) (hes:es=is.map .imm) {i:IV} (hi:ILe (.sl sz is) i) (hr:bM (fzL r g i) B):Weak Γ ⟨E,B⟩ ⟨fzL r g i E,(B.map (Rv r g i)).set r (.dead g)⟩:=
 Weak.frz r hb hes hi rfl (by rw[yc hr])
theorem Weak.row {Γ:Ctx} {E:List PV} {B:List Blk} (r:Nat) {e:TypeId} {sz g:Nat} {es:List PV} (es':List PV) (hb:B[r]?=some (.row e sz g es)) (h:es=es'):Weak Γ ⟨E,B⟩ ⟨E,B.set r (.row e sz g es')⟩:=by
 subst h
 have hr:r < B.length:=(List.getElem?_eq_some_iff.1 hb).1
 have:B.set r (.row e sz g es)=B:=by
  apply List.ext_getElem?
  intro i
  by_cases hi:i=r
  ·subst hi;rw[List.getElem?_set_self hr,hb]
  ·rw[List.getElem?_set_ne (Ne.symm hi)]
 rw[this]
 exact Weak.refl _
end Go.Pv
namespace Go.Pv
open Go.RowKit (Below)
set_option linter.unusedSimpArgs false
set_option linter.unusedSectionVars false
mutual
def mv (i j h g':Nat):PV→PV
 |.any=>.any
 |.imm a=>.imm a
 |.agg cs=>.agg (mvL i j h g' cs)
 |.tup cs=>.tup (mvL i j h g' cs)
 |.ptr q n o=>if q=j then (if n=h then .ptr i g' o else .any) else if q=i then .any else .ptr q n o
 |.row q n=>if q=j then (if n=h then .row i g' else .any) else if q=i then .any else .row q n
 |.eptr q n a b c=>if q=j then (if n=h then .eptr i g' a b c else .any) else if q=i then .any else .eptr q n a b c
 |.sub q n a b c=>if q=j then (if n=h then .sub i g' a b c else .any) else if q=i then .any else .sub q n a b c
 |.iptr cs=>.iptr cs
 |.ful a b=>.ful a b
 |.clo f cs=>.clo f (mvL i j h g' cs)
def mvL (i j h g':Nat):List PV→List PV
 |[]=>[]
 |c::cs=>mv i j h g' c::mvL i j h g' cs
end
def mvB (i j h g':Nat):Blk→Blk
 |.dead q=>.dead q
 |.box q cs t=>.box q (mvL i j h g' cs) t
 |.row e sz q es=>.row e sz q es
 |.map kk q ps=>.map kk q ps
theorem eD (i j h g':Nat):∀is:List IV,mvL i j h g' (is.map .imm)=is.map .imm
 |[]=>by simp[mvL]
 |a::l=>by simp only[List.map_cons];unfold mvL;rw[eD i j h g' l];unfold mv;rfl
section
variable {k:K} {n:Nat} {w:World} {i j h g':Nat} (hi:i < n) (hg:k.G j=h) (hij:i≠j)
def mvK (k:K) (i j h g':Nat):K:=⟨fun r=>if r=i then k.ρ j else k.ρ r,fun r=>if r=i then g' else if r=j then h+1 else k.G r,k.Q,k.H⟩
include hi hg hij
theorem Ci {q m:Nat} {p:Value→Prop} (hr:Ref k n q m p):(q=j→m=h→Ref (mvK k i j h g') n i g' p)∧(q≠j→q≠i→Ref (mvK k i j h g') n q m p):=by
 obtain⟨h1,h2,h3⟩:=hr
 refine⟨fun e1 e2=>⟨hi,by simp[mvK],fun _=>?_⟩,fun e1 e2=>⟨h1,by simp[mvK,e1,e2];exact h2,fun he=>?_⟩⟩
 ·subst e1
  have:=h3 (by rw[e2,hg])
  simpa[mvK]using this
 ·have:=h3 (by simpa[mvK,e1,e2]using he)
  simpa[mvK,e2]using this
mutual
theorem He:∀(p:PV) (v:Value),Rep k n w p v→Rep (mvK k i j h g') n w (mv i j h g' p) v
 |.any,v,_=>by unfold mv;exact bg _ _ _ _
 |.imm a,v,hp=>by unfold mv;rw[aB]at hp ⊢;exact hp
 |.agg cs,v,hp=>by
  unfold mv
  obtain⟨vs,e,hl⟩:=dx.1 hp
  exact dx.2 ⟨vs,e,vC cs vs hl⟩
 |.tup cs,v,hp=>by
  unfold mv
  unfold Rep at hp ⊢
  obtain⟨vs,e,hl⟩:=hp
  exact⟨vs,e,vB cs vs hl⟩
 |.ptr q m o,v,hp=>by
  unfold mv
  have hr:=fun p=>Ci (g':=g') hi hg hij (q:=q) (m:=m) (p:=p)
  unfold Rep at hp
  by_cases e:q=j
  ·rw[if_pos e]
   by_cases e2:m=h
   ·rw[if_pos e2];unfold Rep;exact⟨hp.1,(hr _ hp.2).1 e e2⟩
   ·rw[if_neg e2];exact bg _ _ _ _
  ·rw[if_neg e]
   by_cases e2:q=i
   ·rw[if_pos e2];exact bg _ _ _ _
   ·rw[if_neg e2];unfold Rep;exact⟨hp.1,(hr _ hp.2).2 e e2⟩
 |.row q m,v,hp=>by
  unfold mv
  have hr:=fun p=>Ci (g':=g') hi hg hij (q:=q) (m:=m) (p:=p)
  unfold Rep at hp
  by_cases e:q=j
  ·rw[if_pos e]
   by_cases e2:m=h
   ·rw[if_pos e2];unfold Rep;exact⟨hp.1,(hr _ hp.2).1 e e2⟩
   ·rw[if_neg e2];exact bg _ _ _ _
  ·rw[if_neg e]
   by_cases e2:q=i
   ·rw[if_pos e2];exact bg _ _ _ _
   ·rw[if_neg e2];unfold Rep;exact⟨hp.1,(hr _ hp.2).2 e e2⟩
 |.eptr q m a b c,v,hp=>by
  unfold mv
  have hr:=fun p=>Ci (g':=g') hi hg hij (q:=q) (m:=m) (p:=p)
  unfold Rep at hp
  by_cases e:q=j
  ·rw[if_pos e]
   by_cases e2:m=h
   ·rw[if_pos e2];unfold Rep;exact⟨hp.1,(hr _ hp.2).1 e e2⟩
   ·rw[if_neg e2];exact bg _ _ _ _
  ·rw[if_neg e]
   by_cases e2:q=i
   ·rw[if_pos e2];exact bg _ _ _ _
   ·rw[if_neg e2];unfold Rep;exact⟨hp.1,(hr _ hp.2).2 e e2⟩
 |.sub q m a b c,v,hp=>by
  unfold mv
  have hr:=fun p=>Ci (g':=g') hi hg hij (q:=q) (m:=m) (p:=p)
  unfold Rep at hp
  by_cases e:q=j
  ·rw[if_pos e]
   by_cases e2:m=h
   ·rw[if_pos e2];unfold Rep;exact⟨hp.1,(hr _ hp.2).1 e e2⟩
   ·rw[if_neg e2];exact bg _ _ _ _
  ·rw[if_neg e]
   by_cases e2:q=i
   ·rw[if_pos e2];exact bg _ _ _ _
   ·rw[if_neg e2];unfold Rep;exact⟨hp.1,(hr _ hp.2).2 e e2⟩
 |.iptr cs,v,hp=>by unfold mv;exact bQ (k:=k) (n:=n) (k':=mvK k i j h g') rfl hp
 |.ful _ _,v,hp=>by unfold mv;exact uU (k:=k) (n:=n) (k':=mvK k i j h g') rfl hp
 |.clo f cs,v,hp=>by
  unfold mv
  unfold Rep at hp ⊢
  obtain⟨vs,e,hl⟩:=hp
  exact⟨vs,e,vB cs vs hl⟩
theorem vC:∀(cs:List PV) (vs:List Value),aT k n w cs vs→aT (mvK k i j h g') n w (mvL i j h g' cs) vs
 |[],vs,hp=>by unfold mvL;unfold aT at hp ⊢;exact hp
 |c::cs,vs,hp=>by
  unfold mvL
  unfold aT at hp ⊢
  obtain⟨v,q,e,h0,h1,h2⟩:=hp
  exact⟨v,q,e,h0,He c v h1,vC cs q h2⟩
theorem vB:∀(cs:List PV) (vs:List Value),aI k n w cs vs→aI (mvK k i j h g') n w (mvL i j h g' cs) vs
 |[],vs,hp=>by unfold mvL;unfold aI at hp ⊢;exact hp
 |c::cs,vs,hp=>by
  unfold mvL
  unfold aI at hp ⊢
  obtain⟨v,q,e,h1,h2⟩:=hp
  exact⟨v,q,e,He c v h1,vB cs q h2⟩
end
theorem Ce {sz:Nat}:∀(cs:List PV) (xs:List Value),aL k n w sz cs xs→aL (mvK k i j h g') n w sz (mvL i j h g' cs) xs
 |[],xs,hp=>by unfold mvL;unfold aL at hp ⊢;exact hp
 |c::cs,xs,hp=>by
  unfold mvL
  unfold aL at hp ⊢
  obtain⟨v,q,e,h0,h1,h2,h3⟩:=hp
  exact⟨v,q,e,h0,h1,He hi hg hij c v h2,Ce cs q h3⟩
end
theorem Weak.adopt {Γ:Ctx} {E:List PV} {B:List Blk} (i j g':Nat) {gi:Nat} {x:Blk} (hij:i≠j) (hbi:B[i]?=some (.dead gi)) (hbj:B[j]?=some x) (hn:Γ.n0≤j) (h0:i < Γ.n0→Γ.k0.G i < g') (hr:bM (mvL i j (gen x) g') B) :
  Weak Γ ⟨E,B⟩ ⟨mvL i j (gen x) g' E,((B.map (mvB i j (gen x) g')).set i (Pv.pK g' (mvB i j (gen x) g' x))).set j (.dead (gen x+1))⟩:=by
 rintro a w ⟨hd,k,hI,hT⟩
 have hg:k.G j=gen x:=qW (hI.blk j x hbj)
 have hil:i < B.length:=(List.getElem?_eq_some_iff.1 hbi).1
 have hjl:j < B.length:=(List.getElem?_eq_some_iff.1 hbj).1
 generalize hB':((B.map (mvB i j (gen x) g')).set i (Pv.pK g' (mvB i j (gen x) g' x))).set j (.dead (gen x+1))=B'
 have hlen:B'.length=B.length:=by rw[←hB'];simp
 have hat:∀q y,B'[q]?=some y→(q=j∧y=.dead (gen x+1))∨(q=i∧y=Pv.pK g' (mvB i j (gen x) g' x))∨(q≠i∧q≠j∧∃z,B[q]?=some z∧y=mvB i j (gen x) g' z):=by
  intro q y hy
  rw[←hB']at hy
  by_cases e:q=j
  ·subst e
   rw[List.getElem?_set_self (by simpa using hjl)]at hy
   exact Or.inl ⟨rfl,(Option.some.inj hy).symm⟩
  ·rw[List.getElem?_set_ne (Ne.symm e)]at hy
   by_cases e2:q=i
   ·subst e2
    rw[List.getElem?_set_self (by simpa using hil)]at hy
    exact Or.inr (Or.inl ⟨rfl,(Option.some.inj hy).symm⟩)
   ·rw[List.getElem?_set_ne (Ne.symm e2),List.getElem?_map]at hy
    cases hz:B[q]? with
    |none=>rw[hz]at hy;cases hy
    |some z=>rw[hz]at hy;exact Or.inr (Or.inr ⟨e2,e,z,rfl,(Option.some.inj hy).symm⟩)
 let k':=mvK k i j (gen x) g'
 have hρi:k'.ρ i=k.ρ j:=by show (if i=i then _ else _)=_;simp
 have hρ:∀q,q≠i→k'.ρ q=k.ρ q:=fun q e=>by show (if q=i then _ else _)=_;rw[if_neg e]
 have hGi:k'.G i=g':=by show (if i=i then _ else _)=_;simp
 have hG:∀q,q≠i→q≠j→k'.G q=k.G q:=fun q e e2=>by show (if q=i then _ else if q=j then _ else _)=_;rw[if_neg e,if_neg e2]
 have hGj:k'.G j=gen x+1:=by show (if j=i then _ else if j=j then _ else _)=_;rw[if_neg (Ne.symm hij)];simp
 have hown:∀q y b,B'[q]?=some y→own k' q y=some b→∃q0 z,B[q0]?=some z∧own k q0 z=some b∧(q0=if q=i then j else q):=by
  intro q y b hy ho
  rcases hat q y hy with ⟨_,h⟩|⟨e,h⟩|⟨e,e2,z,hz,h⟩
  ·subst h;cases ho
  ·subst h;subst e
   refine⟨j,x,hbj,?_,by simp⟩
   cases x with
   |dead _=>cases ho
   |box _ _ _=>show base (k.ρ j)=_;rw[←hρi];exact ho
   |row _ _ _ _=>show base (k.ρ j)=_;rw[←hρi];exact ho
   |map _ _ _=>show base (k.ρ j)=_;rw[←hρi];exact ho
  ·subst h
   refine⟨q,z,hz,?_,by rw[if_neg e]⟩
   cases z with
   |dead _=>cases ho
   |box _ _ _=>show base (k.ρ q)=_;rw[←hρ q e];exact ho
   |row _ _ _ _=>show base (k.ρ q)=_;rw[←hρ q e];exact ho
   |map _ _ _=>show base (k.ρ q)=_;rw[←hρ q e];exact ho
 have hnij:∀q y b,B'[q]?=some y→own k' q y=some b→q≠j:=by
  intro q y b hy ho e
  rcases hat q y hy with ⟨_,h⟩|⟨e2,h⟩|⟨_,e2,_⟩
  ·subst h;cases ho
  ·exact hij (e2.symm.trans e)
  ·exact e2 e
 have hrow:∀(y:Blk) (q:Nat),B[q]?=some y→∀(e:TypeId) (sz m:Nat) (es:List PV),y=.row e sz m es→mvL i j (gen x) g' es=es:=by
  intro y q hy e sz m es he
  subst he
  exact hr.at hy
 refine⟨hd,k',⟨hI.below,hI.lt,hI.le,hI.qs,hI.rr,fun gg cs hc=>bQ (k:=k) (n:=B.length) rfl (hI.gl gg cs hc),fun q y hy=>?_,fun q y b hy ho=>?_,fun q q' y y' b hy hy' ho ho'=>?_,⟨hI.kp.fr,by rw[hlen];exact hI.kp.ext.le,hI.kp.ext.q,fun q hq=>?_⟩,fun q y b hy ho=>?_,hI.hn⟩,?_⟩
 ·rw[hlen]
  rcases hat q y hy with ⟨e,h⟩|⟨e,h⟩|⟨e,e2,z,hz,h⟩
  ·subst e;subst h;exact hGj
  ·subst e;subst h
   have hbk:=hI.blk j x hbj
   cases x with
   |dead m=>exact hGi
   |box m cs t=>
    obtain⟨_,b,c,ty,h3,h4,h5,h6⟩:=hbk
    exact⟨hGi,b,c,ty,hρi.trans h3,h4,h5,vC hil hg hij cs _ h6⟩
   |row e' sz m es=>
    obtain⟨_,xs,h3,h4⟩:=hbk
    refine⟨hGi,xs,by rw[hρi];exact h3,?_⟩
    have:=Ce (g':=g') hil hg hij es _ h4
    rw[hrow _ _ hbj _ _ _ _ rfl]at this
    exact this
   |map kk m ps=>exact⟨hGi,by rw[hρi];exact hbk.2.any rfl rfl (List.all_eq_true.1 hr.all _ (List.mem_of_getElem? hbj))⟩
  ·subst h
   have hbk:=hI.blk q z hz
   cases z with
   |dead m=>exact (hG q e e2).trans hbk
   |box m cs t=>
    obtain⟨h2,b,c,ty,h3,h4,h5,h6⟩:=hbk
    exact⟨(hG q e e2).trans h2,b,c,ty,(hρ q e).trans h3,h4,h5,vC hil hg hij cs _ h6⟩
   |row e' sz m es=>
    obtain⟨h2,xs,h3,h4⟩:=hbk
    refine⟨(hG q e e2).trans h2,xs,by rw[hρ q e];exact h3,?_⟩
    have:=Ce (g':=g') hil hg hij es _ h4
    rw[hrow _ _ hz _ _ _ _ rfl]at this
    exact this
   |map kk m ps=>exact⟨(hG q e e2).trans hbk.1,by rw[hρ q e];exact hbk.2.any rfl rfl (List.all_eq_true.1 hr.all _ (List.mem_of_getElem? hz))⟩
 ·obtain⟨q0,z,hz,h,_⟩:=hown q y b hy ho
  exact hI.sep q0 z b hz h
 ·have n1:=hnij q y b hy ho
  have n2:=hnij q' y' b hy' ho'
  obtain⟨q0,z,hz,h,e1⟩:=hown q y b hy ho
  obtain⟨q1,z',hz',h',e2⟩:=hown q' y' b hy' ho'
  have:=hI.inj q0 q1 z z' b hz hz' h h'
  rw[e1,e2]at this
  split at this<;>split at this<;>omega
 ·obtain⟨h1,h2⟩:=hI.kp.ext.r q hq
  have hqj:q≠j:=by omega
  by_cases e:q=i
  ·subst e
   have:=h0 hq
   rw[hGi]
   exact⟨by omega,fun e=>by omega⟩
  ·rw[hG q e hqj,hρ q e]
   exact⟨h1,h2⟩
 ·obtain⟨q0,z,hz,h,_⟩:=hown q y b hy ho
  exact hI.nf q0 z b hz h
 ·show aI k' B'.length w _ _
  rw[hlen]
  exact vB hil hg hij E _ hT
theorem Wk.TN {k:K} {n m:Nat} {w:World} {E E':List PV} (h:Wk m E E'):∀{vs:List Value},aT k n w E vs→aT k n w E' vs:=by
 induction h with
 |nil=>intro vs h;exact h
 |keep hb _ ih=>
  intro vs h
  unfold aT at h ⊢
  obtain⟨v,r,e,h0,h1,h2⟩:=h
  exact⟨v,r,e,h0,h1,ih h2⟩
 |drop _ ih=>
  intro vs h
  unfold aT at h ⊢
  obtain⟨v,r,e,h0,h1,h2⟩:=h
  exact⟨v,r,e,h0,bg _ _ _ _,ih h2⟩
 |le hl _ ih=>
  intro vs h
  unfold aT at h ⊢
  obtain⟨v,r,e,h0,h1,h2⟩:=h
  exact⟨v,r,e,h0,aB.2 (hl _ _ _ (aB.1 h1)),ih h2⟩
theorem Weak.cells {Γ:Ctx} {E:List PV} {B:List Blk} (b:Nat) {g:Nat} {cs cs':List PV} {t:Option TypeId} (hb:B[b]?=some (.box g cs t)) (h:Wk B.length cs cs'):Weak Γ ⟨E,B⟩ ⟨E,B.set b (.box g cs' t)⟩:=by
 rintro a w ⟨hd,k,hI,hT⟩
 refine⟨hd,k,EP hI hb (fun vs hv=>h.TN hv),?_⟩
 show aI k (B.set b _).length w _ _
 rw[List.length_set]
 exact hT
theorem Weak.spare {Γ:Ctx} {E:List PV} {B:List Blk}:Weak Γ ⟨E,B⟩ ⟨E,B++[.dead 77]⟩:=by
 rintro a w ⟨hd,k,hI,hT⟩
 let k':K:=⟨k.ρ,fun r=>if r=B.length then 77 else k.G r,k.Q,k.H⟩
 have hG:∀r,r < B.length→k'.G r=k.G r:=fun r h=>by show (if r=B.length then 77 else _)=_;rw[if_neg (by omega)]
 have hlen:(B++[Blk.dead 77]).length=B.length+1:=by simp
 have he:Ext k B.length w k' (B.length+1) w:=⟨by omega,fun b hb=>⟨hb,rfl⟩,fun r hr=>by rw[hG r hr];exact⟨Nat.le_refl _,fun _=>rfl⟩⟩
 have hat:∀r x,(B++[Blk.dead 77])[r]?=some x→(r < B.length∧B[r]?=some x)∨(r=B.length∧x=.dead 77):=fun r x hx=>by
  by_cases h:r < B.length
  ·rw[List.getElem?_append_left h]at hx
   exact Or.inl ⟨h,hx⟩
  ·have hr:r < (B++[Blk.dead 77]).length:=(List.getElem?_eq_some_iff.1 hx).1
   rw[hlen]at hr
   have:r=B.length:=by omega
   subst this
   simp at hx
   exact Or.inr ⟨rfl,hx.symm⟩
 have hown:∀r x b,(B++[Blk.dead 77])[r]?=some x→own k' r x=some b→B[r]?=some x∧own k r x=some b:=fun r x b hx hb=>by
  rcases hat r x hx with ⟨_,h2⟩|⟨_,h2⟩
  ·exact⟨h2,by cases x<;>exact hb⟩
  ·subst h2;cases hb
 refine⟨hd,k',⟨hI.below,hI.lt,hI.le,hI.qs,hI.rr,fun gg cs hc=>bQ (k:=k) (n:=B.length) rfl (hI.gl gg cs hc),fun r x hx=>?_,fun r x b hx hb=>?_,fun r r' x x' b hx hx' hb hb'=>?_,⟨hI.kp.fr,by rw[hlen];exact hI.kp.ext.trans he⟩,fun r x b hx hb=>?_,hI.hn⟩,?_⟩
 ·rw[hlen]
  rcases hat r x hx with ⟨h1,h2⟩|⟨h1,h2⟩
  ·have hbk:=hI.blk r x h2
   cases x with
   |dead m=>exact (hG r h1).trans hbk
   |box m cs t=>
    obtain⟨h2,b,c,ty,h3,h4,h5,h6⟩:=hbk
    exact⟨(hG r h1).trans h2,b,c,ty,h3,h4,h5,fT he _ _ h6⟩
   |row e' sz m es=>
    obtain⟨h2,xs,h3,h4⟩:=hbk
    exact⟨(hG r h1).trans h2,xs,h3,bf he _ _ h4⟩
   |map kk m ps=>exact⟨(hG r h1).trans hbk.1,hbk.2.same he (fun _ _ h=>h)⟩
  ·subst h1;subst h2
   show (if B.length=B.length then 77 else _)=77
   simp
 ·obtain⟨h1,h2⟩:=hown r x b hx hb
  exact hI.sep r x b h1 h2
 ·obtain⟨h1,h2⟩:=hown r x b hx hb
  obtain⟨h3,h4⟩:=hown r' x' b hx' hb'
  exact hI.inj r r' x x' b h1 h3 h2 h4
 ·obtain⟨h1,h2⟩:=hown r x b hx hb
  exact hI.nf r x b h1 h2
 ·show aI k' (B++[Blk.dead 77]).length w _ _
  rw[hlen]
  exact bU he _ _ hT
end Go.Pv
namespace Go.Pv
open Go.RowKit (Below)
open Go.ChangeShapes Go.WideShapes
set_option linter.unusedSimpArgs false
set_option linter.unusedSectionVars false
def nN (P:Program) (t:TypeId):Bool:=match P.underlying t with
 |some (.struct _)=>true
 |_=>false
def pO (agg:Bool) (cs:List IV):IV:=if agg then .agg cs else cs.headD .nil
inductive OkC (P:Program):TypeId→List IV→Prop
 |int {t:TypeId} {k:IntKind} {z:Int}:P.underlying t=some (.int k)→(Lit.int k z).wf=true→OkC P t [.int k z]
 |str {t:TypeId} {s:ByteArray}:P.underlying t=some .string→s.size≤maxLen→OkC P t [.str s]
 |bool {t:TypeId} {b:Bool}:P.underlying t=some .bool→OkC P t [.bool b]
 |strct {t:TypeId} {fs:Array Field} (parts:List (List IV)):P.underlying t=some (.struct fs)→parts.length=fs.size→(∀(i:Nat) (f:Field) (q:List IV),fs[i]?=some f→parts[i]?=some q→OkC P f.type q)→OkC P t parts.flatten
 |slice {t e:TypeId} (css:List (List IV)):P.underlying t=some (.slice e)→css.length≤maxLen→(∀cs∈css,OkC P e cs)→OkC P t [.sl (P.cellsOf e) (css.map (pO (nN P e)))]
def mR (P:Program):Nat→List Field→Option Nat
 |off,[]=>some off
 |off,f::r=>if f.offset=off then mR P (off+P.cellsOf f.type) r else none
def I8 (P:Program) (S:List TypeId) (t:TypeId):Bool:=match P.underlying t with
 |some (.int _)|some .string|some .bool=>true
 |some (.struct fs)=>decide (mR P 0 fs.toList=some (P.cellsOf t))&&fs.toList.all fun f=>S.contains f.type
 |some (.slice e)=>S.contains e&&decide (0 < P.cellsOf e)&&decide (0 < P.bytesOf e)
 |_=>false
def closed (P:Program) (S:List TypeId):Bool:=S.all (I8 P S)
theorem FL {Q:Nat→Prop} {w:World}:∀{E E':List IV} {vs vs':List Value},aO Q w E vs→aO Q w E' vs'→aO Q w (E++E') (vs++vs')
 |[],_,vs,_,h,h'=>by unfold aO at h;subst h;simpa using h'
 |c::cs,_,vs,_,h,h'=>by
  unfold aO at h
  obtain⟨v,r,ee,h0,h1,h2⟩:=h
  subst ee
  simp only[List.cons_append]
  unfold aO
  exact⟨v,_,rfl,h0,h1,FL h2 h'⟩
theorem kY {Q:Nat→Prop} {w:World} {i:IV} {v:Value} (h1:one v) (h2:aF Q w i v):aO Q w [i] [v]:=by
 unfold aO
 exact⟨v,[],rfl,h1,h2,by unfold aO;rfl⟩
theorem Al {P:Program} {Q:Nat→Prop} {w:World} {cs:List Value}:∀(fs:List Field) (parts:List (List IV)) (off n:Nat),mR P off fs=some n→parts.length=fs.length→n=cs.length→(∀(i:Nat) (f:Field) (q:List IV),fs[i]?=some f→parts[i]?=some q→aO Q w q ((cs.drop f.offset).take (P.cellsOf f.type)))→off≤n→aO Q w parts.flatten (cs.drop off)
 |[],[],off,n,hc,_,hn,_,_=>by
  simp only[mR,Option.some.injEq]at hc
  rw[List.drop_of_length_le (by omega)]
  simp[aO]
 |[],_::_,_,_,_,hl,_,_,_=>by simp at hl
 |_::_,[],_,_,_,hl,_,_,_=>by simp at hl
 |f::fs,q::parts,off,n,hc,hl,hn,h,hle=>by
  unfold mR at hc
  split at hc
  ·rename_i ho
   have hmono:∀(fs:List Field) (off n:Nat),mR P off fs=some n→off≤n:=by
    intro fs
    induction fs with
    |nil=>intro off n h;simp only[mR,Option.some.injEq]at h;omega
    |cons f fs ih=>
     intro off n h
     unfold mR at h
     split at h
     ·have:=ih _ _ h;omega
     ·cases h
   have hle2:=hmono _ _ _ hc
   have h0:=h 0 f q rfl rfl
   have ih:=Al fs parts (off+P.cellsOf f.type) n hc (by simpa using hl) hn (fun i f' q' hf hq=>h (i+1) f' q' (by simpa using hf) (by simpa using hq)) hle2
   rw[ho]at h0
   have e:cs.drop off=(cs.drop off).take (P.cellsOf f.type)++cs.drop (off+P.cellsOf f.type):=by
    rw[←List.drop_drop,List.take_append_drop]
   rw[e,List.flatten_cons]
   exact FL h0 ih
  ·cases hc
theorem JH {Q:Nat→Prop} {w:World} {sz b:Nat}:∀(es:List IV) (off:Nat),(∀(i:Nat) (e:IV),es[i]?=some e→∃v,aF Q w e v∧v.cells.size=sz∧∀j u,v.cells[j]?=some u→w.cell? ⟨b,off+i*sz+j,none⟩=some u)→dA Q w sz b off es
 |[],_,_=>by unfold dA;trivial
 |e::es,off,h=>by
  unfold dA
  refine⟨?_,JH es (off+sz) fun i e' he=>?_⟩
  ·obtain⟨v,h1,h2,h3⟩:=h 0 e rfl
   exact⟨v,h1,h2,fun j u hj=>by have:=h3 j u hj;rwa [Nat.zero_mul,Nat.add_zero]at this⟩
  ·obtain⟨v,h1,h2,h3⟩:=h (i+1) e' (by simpa using he)
   exact⟨v,h1,h2,fun j u hj=>by have:=h3 j u hj;rwa [show off+(i+1)*sz+j=off+sz+i*sz+j by rw[Nat.succ_mul];omega]at this⟩
theorem OkC.len1 {P:Program} {t:TypeId} {is:List IV} (h:OkC P t is) (ha:nN P t=false):∃i,is=[i]:=by
 cases h with
 |int h1 _=>exact⟨_,rfl⟩
 |str h1 _=>exact⟨_,rfl⟩
 |bool h1=>exact⟨_,rfl⟩
 |strct parts h1 _ _=>simp[nN,h1]at ha
 |slice css h1 _ _=>exact⟨_,rfl⟩
section
variable {P:Program} {t:TypeId} {is:List IV}
theorem OkC.bT {k:IntKind} (hu:P.underlying t=some (.int k)) (h:OkC P t is):∃z,is=[.int k z]∧(Lit.int k z).wf=true:=by
 cases h with
 |int h1 h2=>rw[hu]at h1;injection h1 with h1;injection h1 with h1;subst h1;exact⟨_,rfl,h2⟩
 |str h1 _=>rw[hu]at h1;cases h1
 |bool h1=>rw[hu]at h1;cases h1
 |strct _ h1 _ _=>rw[hu]at h1;cases h1
 |slice _ h1 _ _=>rw[hu]at h1;cases h1
theorem OkC.fF (hu:P.underlying t=some .string) (h:OkC P t is):∃s:ByteArray,is=[.str s]∧s.size≤maxLen:=by
 cases h with
 |int h1 h2=>rw[hu]at h1;cases h1
 |str h1 h2=>exact⟨_,rfl,h2⟩
 |bool h1=>rw[hu]at h1;cases h1
 |strct _ h1 _ _=>rw[hu]at h1;cases h1
 |slice _ h1 _ _=>rw[hu]at h1;cases h1
theorem OkC.fQ {fs:Array Field} (hu:P.underlying t=some (.struct fs)) (h:OkC P t is):∃parts:List (List IV),is=parts.flatten∧parts.length=fs.size∧∀(i:Nat) (f:Field) (q:List IV),fs[i]?=some f→parts[i]?=some q→OkC P f.type q:=by
 cases h with
 |int h1 h2=>rw[hu]at h1;cases h1
 |str h1 h2=>rw[hu]at h1;cases h1
 |bool h1=>rw[hu]at h1;cases h1
 |strct parts h1 h2 h3=>rw[hu]at h1;injection h1 with h1;injection h1 with h1;subst h1;exact⟨parts,rfl,h2,h3⟩
 |slice _ h1 _ _=>rw[hu]at h1;cases h1
theorem OkC.lC {e:TypeId} (hu:P.underlying t=some (.slice e)) (h:OkC P t is):∃css:List (List IV),is=[.sl (P.cellsOf e) (css.map (pO (nN P e)))]∧css.length≤maxLen∧∀cs∈css,OkC P e cs:=by
 cases h with
 |int h1 h2=>rw[hu]at h1;cases h1
 |str h1 h2=>rw[hu]at h1;cases h1
 |bool h1=>rw[hu]at h1;cases h1
 |strct _ h1 _ _=>rw[hu]at h1;cases h1
 |slice css h1 h2 h3=>rw[hu]at h1;injection h1 with h1;injection h1 with h1;subst h1;exact⟨css,rfl,h2,h3⟩
theorem kT {α:Type} {P:Program} {e:TypeId} {f:α→IV} {ok:α→Prop} (h:∀cs,OkC P e cs→∃x,pO (nN P e) cs=f x∧ok x):∀(css:List (List IV)),(∀cs∈css,OkC P e cs)→∃L:List α,css.map (pO (nN P e))=L.map f∧L.length=css.length∧∀x∈L,ok x
 |[],_=>⟨[],rfl,rfl,fun x hx=>by cases hx⟩
 |cs::css,hc=>by
  obtain⟨x,h1,h2⟩:=h cs (hc cs List.mem_cons_self)
  obtain⟨L,h3,h4,h5⟩:=kT h css (fun cs h=>hc cs (List.mem_cons_of_mem _ h))
  refine⟨x::L,by rw[List.map_cons,List.map_cons,h1,h3],by simp[h4],fun y hy=>?_⟩
  rcases List.mem_cons.1 hy with rfl|hy
  ·exact h2
  ·exact h5 y hy
end
mutual
def szI (m:Nat):IV→Prop
 |.str s=>s.size≤m
 |.agg cs=>szL m cs
 |.sl _ es=>es.length≤m∧szL m es
 |_=>True
def szL (m:Nat):List IV→Prop
 |[]=>True
 |i::is=>szI m i∧szL m is
end
theorem oM {m:Nat}:∀{l:List IV},szL m l↔∀i∈l,szI m i
 |[]=>by simp[szL]
 |i::l=>by simp[szL,oM (l:=l)]
theorem Oc {m:Nat} {a:Bool} {cs:List IV} (h:szL m cs):szI m (pO a cs):=by
 unfold pO
 cases a with
 |true=>rw[if_pos rfl];unfold szI;exact h
 |false=>
  rw[if_neg (by simp)]
  cases cs with
  |nil=>unfold List.headD szI;trivial
  |cons c cs=>unfold szL at h;exact h.1
theorem uD {H:Type} {P:Program} {e:TypeId}:∀{l:List (DataW H)} {d:DataW H},d∈l→∀n∈d.weights P e,n∈DataW.weightsAll P e l
 |d0::l,d,hd,n,hn=>by
  simp only[DataW.weightsAll,List.mem_append]
  rcases List.mem_cons.1 hd with rfl|hd
  ·exact Or.inl hn
  ·exact Or.inr (uD hd n hn)
section
variable {H:Type} {enc:TypeId×Value→H} {P:Program} {w:World} {bs:Nat} {spare:Nat→Bool} {held:Bool} {S:List TypeId}
theorem FR (hS:closed P S=true):∀(fuel:Nat) (t:TypeId) (cs:List Value) (x:DataW H×List MemPlace),S.contains t=true→DataW.trod enc P w bs spare held fuel t cs=some x→
  ∃is,aO (fun b=>b < w.heap.size) w is cs∧OkC P t is∧∀m,(∀n∈x.1.weights P t,n≤m)→szL m is:=by
 intro fuel
 induction fuel using Nat.strongRecOn with
 |_ fuel ih=>
 intro t cs x ht h
 have hc:=List.all_eq_true.1 hS t (by simpa using ht)
 unfold I8 at hc
 split at hc
 ·rename_i k hu
  obtain⟨n,rfl,_,hw⟩:=DataW.trod_int hu h
  exact⟨[.int k n],kY rfl (by unfold aF;rfl),.int hu hw,fun m _=>by simp[szL,szI]⟩
 ·rename_i hu
  obtain⟨s,rfl,hx,hw⟩:=DataW.trod_string hu h
  refine⟨[.str s],kY rfl (by unfold aF;rfl),.str hu hw,fun m hm=>?_⟩
  subst hx
  have:=hm s.data.toList.length (by simp[DataW.weights])
  simp only[szL,szI,and_true]
  exact this
 ·rename_i hu
  obtain⟨b,rfl,_⟩:=DataW.trod_bool hu h
  exact⟨[.bool b],kY rfl (by unfold aF;rfl),.bool hu,fun m _=>by simp[szL,szI]⟩
 ·rename_i fs hu
  rw[Bool.and_eq_true,decide_eq_true_eq]at hc
  obtain⟨hc1,hc2⟩:=hc
  obtain⟨xs,n,hn,hxe,hl,hxl,hf⟩:=DataW.trod_struct hu h
  have each:∀i,i < fs.size→∃q:List IV,∀f:Field,fs[i]?=some f→aO (fun b=>b < w.heap.size) w q ((cs.drop f.offset).take (P.cellsOf f.type))∧OkC P f.type q∧∀m,(∀n∈x.1.weights P t,n≤m)→szL m q:=by
   intro i hi
   have hfi:fs[i]?=some fs[i]:=Array.getElem?_eq_getElem hi
   have h1:=hf i _ hfi
   rw[List.getElem?_eq_getElem (by omega)]at h1
   obtain⟨q,h2,h3,h4⟩:=ih n (by omega) _ _ _ (List.all_eq_true.1 hc2 fs[i] (by simp)) h1
   refine⟨q,fun f hf'=>?_⟩
   rw[hfi]at hf'
   injection hf' with hf'
   subst hf'
   refine⟨h2,h3,fun m hm=>h4 m fun n hn=>hm n ?_⟩
   rw[hxe]
   simp only[DataW.weights,hu]
   exact DataW.weights_mem_each (j:=i) (by rw[List.getElem?_map,Array.getElem?_toList,hfi];rfl) (by rw[List.getElem?_map,List.getElem?_eq_getElem (by omega)];rfl) n hn
  haveI:Inhabited (List IV):=⟨[]⟩
  obtain⟨q,hq⟩:=Deep.choose_lt each
  have hat:∀(i:Nat) (f:Field) (p:List IV),fs[i]?=some f→((List.range fs.size).map q)[i]?=some p→p=q i∧i < fs.size:=by
   intro i f p hf' hp
   have hi:i < fs.size:=(Array.getElem?_eq_some_iff.1 hf').1
   rw[List.getElem?_map,List.getElem?_range hi]at hp
   simp only[Option.map_some,Option.some.injEq]at hp
   exact⟨hp.symm,hi⟩
  refine⟨((List.range fs.size).map q).flatten,?_,.strct _ hu (by simp) fun i f p hf' hp=>?_,fun m hm=>?_⟩
  ·have:=Al (P:=P) (Q:=fun b=>b < w.heap.size) (w:=w) (cs:=cs) fs.toList ((List.range fs.size).map q) 0 _ hc1 (by simp) hl.symm (fun i f p hf' hp=>by
    rw[Array.getElem?_toList]at hf'
    obtain⟨rfl,hi⟩:=hat i f p hf' hp
    exact (hq i hi f hf').1) (Nat.zero_le _)
   simpa using this
  ·obtain⟨rfl,hi⟩:=hat i f p hf' hp
   exact (hq i hi f hf').2.1
  ·refine oM.2 fun y hy=>?_
   obtain⟨p,hp,hyp⟩:=List.mem_flatten.1 hy
   obtain⟨i,hi,rfl⟩:=List.mem_map.1 hp
   have hi:=List.mem_range.1 hi
   exact oM.1 ((hq i hi _ (Array.getElem?_eq_getElem hi)).2.2 m hm) y hyp
 ·rename_i e hu
  rw[Bool.and_eq_true,Bool.and_eq_true,decide_eq_true_eq,decide_eq_true_eq]at hc
  obtain⟨⟨hc1,hc2⟩,hc3⟩:=hc
  rcases DataW.trod_slice hu h with ⟨rfl,_⟩|⟨a,len,cap,elems,rest,n,hn,rfl,hxe,_,hle,hm,hel,hall,_,_⟩
  ·exact⟨[.sl (P.cellsOf e) []],kY rfl (by unfold aF;exact⟨none,0,rfl,Nat.le_refl _,Nat.zero_le _,fun h=>absurd h (by simp)⟩),.slice [] hu (Nat.zero_le _) (fun cs h=>by cases h),fun m _=>by simp[szL,szI]⟩
  ·have each:∀i,i < len→∃q:List IV×List Value,aO (fun b=>b < w.heap.size) w q.1 q.2∧(OkC P e q.1∧∀m,(∀n∈x.1.weights P t,n≤m)→szL m q.1)∧q.2.length=P.cellsOf e∧∀j,j < P.cellsOf e→w.cell? (a.add (i*P.cellsOf e+j))=q.2[j]?:=by
    intro i hi
    have h1:=hall i hi
    rw[List.getElem?_eq_getElem (by omega)]at h1
    obtain⟨cs',h2,h3⟩:=Option.bind_eq_some_iff.1 h1
    obtain⟨_,hlen,hcell⟩:=World.cells?_some h2
    obtain⟨q,h4,h5,h6⟩:=ih n (by omega) _ _ _ hc1 h3
    refine⟨(q,cs'),h4,⟨h5,fun m hm=>h6 m fun k hk=>hm k ?_⟩,hlen,fun j hj=>?_⟩
    ·rw[hxe]
     simp only[DataW.weights,hu]
     exact List.mem_cons_of_mem _ (List.mem_append.2 (Or.inl (uD (List.mem_map.2 ⟨_,List.getElem_mem _,rfl⟩) k hk)))
    rw[←Deep.add_add]
    exact hcell j hj
   haveI:Inhabited (List IV×List Value):=⟨([],[])⟩
   obtain⟨q,hq⟩:=Deep.choose_lt each
   have hlen:((List.range len).map fun i=>(q i).1).length=len:=by simp
   refine⟨[.sl (P.cellsOf e) (((List.range len).map fun i=>(q i).1).map (pO (nN P e)))],kY rfl ?_,.slice _ hu (by rw[hlen];omega) fun cs hcs=>?_,fun m hm=>?_⟩
   ·unfold aF
    refine⟨some a,cap,by simp,by simp;exact hle,hm,fun hp=>?_⟩
    have hpos:0 < len:=by simpa using hp
    obtain⟨_,_,g3,g4⟩:=hq 0 hpos
    have h1:=g4 0 hc2
    rw[List.getElem?_eq_getElem (by omega)]at h1
    have hsp:=World.cell?_spot h1
    have hbl:=World.block_lt_of_cell? w _ h1
    obtain⟨b,off,sp⟩:=a
    have hsp':sp=none:=by simpa[Addr.add]using hsp
    subst hsp'
    rw[add_plain]at hbl
    refine⟨b,off,rfl,hbl,JH _ _ fun i x hx=>?_⟩
    rw[List.map_map,List.getElem?_map]at hx
    cases hi:(List.range len)[i]? with
    |none=>rw[hi]at hx;cases hx
    |some i'=>
     rw[hi]at hx
     have hil:i < len:=by have:=(List.getElem?_eq_some_iff.1 hi).1;simpa using this
     rw[List.getElem?_range hil]at hi
     injection hi with hi
     subst hi
     simp only[Option.map_some,Option.some.injEq,Function.comp]at hx
     subst hx
     obtain⟨g1,g2,g3,g4⟩:=hq i hil
     have hcell:∀j u,(q i).2[j]?=some u→w.cell? ⟨b,off+i*P.cellsOf e+j,none⟩=some u:=by
      intro j u hj
      have hjl:j < P.cellsOf e:=by have:=(List.getElem?_eq_some_iff.1 hj).1;omega
      have:=g4 j hjl
      rw[add_plain,←Nat.add_assoc,hj]at this
      exact this
     cases ha:nN P e with
     |true=>
      refine⟨.agg (q i).2.toArray,?_,by show (q i).2.toArray.size=_;simpa using g3,fun j u hj=>hcell j u ?_⟩
      ·show aF _ w (.agg (q i).1) _
       exact bG.2 ⟨_,rfl,g1⟩
      ·have:(Value.agg (q i).2.toArray).cells=(q i).2.toArray:=rfl
       rw[this]at hj
       simpa using hj
     |false=>
      obtain⟨y,hy⟩:=g2.1.len1 ha
      rw[hy]at g1
      unfold aO at g1
      obtain⟨v,r,e1,h0,h2,h3⟩:=g1
      unfold aO at h3
      subst h3
      have hv:v.cells=#[v]:=by cases v<;>first|rfl|(simp[one,Value.oneCell']at h0)
      refine⟨v,?_,?_,fun j u hj=>hcell j u ?_⟩
      ·show aF _ w (pO false (q i).1) v
       rw[hy]
       exact h2
      ·rw[hv,←g3,e1];rfl
      ·rw[hv]at hj
       rw[e1]
       simpa using hj
   ·obtain⟨i,hi,rfl⟩:=List.mem_map.1 hcs
    exact (hq i (List.mem_range.1 hi)).2.1.1
   ·simp only[szL,szI,and_true]
    refine⟨?_,oM.2 fun y hy=>?_⟩
    ·rw[List.length_map,hlen]
     have h1:=hm ((elems.length+rest.length)*P.bytesOf e) (by rw[hxe];simp[DataW.weights,hu])
     have h2:elems.length+rest.length≤(elems.length+rest.length)*P.bytesOf e:=Nat.le_mul_of_pos_right _ hc3
     omega
    obtain⟨cs,hcs,rfl⟩:=List.mem_map.1 hy
    obtain⟨i,hi,rfl⟩:=List.mem_map.1 hcs
    exact Oc ((hq i (List.mem_range.1 hi)).2.1.2 m hm)
 ·cases hc
end
end Go.Pv
