/-
  Plain values: a region whose order is drawn: whatever order, the same plain values. Plain values: the region's law, in whatever order. Plain values: code, loops, what a call hands back; a call that only reads and makes. Plain values: what a call hands back; calls of plain values alone. Plain values: a row that nobody will write any more; a nil slice that will be appended to. Plain values: a call that is given blocks of the caller's own, which it may write. Plain values: what must be shown of one operation, reckoned without a fact: facts come as things owed. Plain values: that what is reckoned without facts is what an operation does. Plain values: calls that keep rows; all operations.
-/
import Derived.Test.YtfjibfdelbodjaaGreatP2
import Derived.IntWalk
namespace Go.Pv
open Go.RowKit (Below)
def w9 (l:List Nat):List Nat→List Nat
 |[]=>l
 |x::r=>w9 (if l.contains x then l else x::l) r
def EJ:List Oper→List (List Nat)→List (List Nat)
 |[],acc=>acc
 |o::r,acc=>EJ r (acc++[o.after.toList.foldl (fun s e=>if Region.binds .any e then w9 s (e.on::acc.getD e.on []) else s) []])
def AV (ops:List Oper) (i:Nat):Bool:=
 match ops with
 |[]=>true
 |o::r=>(o.after.toList.all fun e=>!Region.binds .any e||decide (e.on < i))&&AV r (i+1)
def bK (ws:List (Nat×Blk)) (r:Nat):Bool:=ws.any fun x=>x.1 == r
def clash (x y:Eff):Bool:=
 (match x.dst with
  |some d=>y.tr.contains d||y.dst == some d
  |none=>false) ||
 (match y.dst with
  |some d=>x.tr.contains d
  |none=>false) ||
 x.ws.any (fun q=>y.br.contains q.1||bK y.ws q.1)||y.ws.any (fun q=>x.br.contains q.1)
def rV (es:List Eff) (an:List (List Nat)):Bool:=
 (List.range es.length).all fun j=>(List.range j).all fun i=>
  match es[i]?,es[j]? with
  |some x,some y=>!clash x y||(an.getD j []).contains i
  |_,_=>false
def KH (s:St) (es:List Eff):Bool:=
 es.all fun e=>(match e.dst with
  |some d=>decide (d < s.E.length)
  |none=>true)&&e.ws.all fun q=>decide (q.1 < s.B.length)
theorem vT {x:Nat}:∀(r l:List Nat),x∈w9 l r→x∈l∨x∈r
 |[],l,h=>Or.inl h
 |y::r,l,h=>by
  unfold w9 at h
  rcases vT r _ h with h|h
  ·split at h
   ·exact Or.inl h
   ·rcases List.mem_cons.1 h with rfl|h
    ·exact Or.inr List.mem_cons_self
    ·exact Or.inl h
  ·exact Or.inr (List.mem_cons_of_mem _ h)
inductive Ahead (ops:List Oper):Nat→Nat→Prop
 |one {i j:Nat} {o:Oper} {e:Edge}:ops[j]?=some o→e∈o.after→Region.binds .any e=true→e.on=i→Ahead ops i j
 |more {i j m:Nat}:Ahead ops i m→Ahead ops m j→Ahead ops i j
theorem y7 {acc:List (List Nat)} {x:Nat}:∀(l:List Edge) (s:List Nat),x∈l.foldl (fun s e=>if Region.binds .any e then w9 s (e.on::acc.getD e.on []) else s) s→
  x∈s∨∃e∈l,Region.binds .any e=true∧(x=e.on∨x∈acc.getD e.on [])
 |[],s,h=>Or.inl h
 |e::l,s,h=>by
  simp only[List.foldl_cons]at h
  rcases y7 l _ h with h|⟨e',h1,h2⟩
  ·split at h
   ·rename_i hb
    rcases vT _ _ h with h|h
    ·exact Or.inl h
    ·rcases List.mem_cons.1 h with h|h
     ·exact Or.inr ⟨e,List.mem_cons_self,hb,Or.inl h⟩
     ·exact Or.inr ⟨e,List.mem_cons_self,hb,Or.inr h⟩
   ·exact Or.inl h
  ·exact Or.inr ⟨e',List.mem_cons_of_mem _ h1,h2⟩
theorem zF (ops:List Oper):∀(l:List Oper) (acc:List (List Nat)),(∀j,l[j]?=ops[acc.length+j]?)→(∀j i,i∈acc.getD j []→Ahead ops i j)→∀j i,i∈(EJ l acc).getD j []→Ahead ops i j
 |[],acc,_,hacc,j,i,h=>hacc j i h
 |o::l,acc,hl,hacc,j,i,h=>by
  unfold EJ at h
  refine zF ops l _ (fun q=>?_) (fun q x hx=>?_) j i h
  ·have:=hl (q+1)
   simp only[List.getElem?_cons_succ]at this
   rw[this,List.length_append,List.length_singleton]
   congr 1
   omega
  ·rw[List.getD_eq_getElem?_getD]at hx
   rcases Nat.lt_trichotomy q acc.length with hq|hq|hq
   ·rw[List.getElem?_append_left hq,←List.getD_eq_getElem?_getD]at hx
    exact hacc q x hx
   ·subst hq
    rw[List.getElem?_append_right (Nat.le_refl _)]at hx
    simp only[Nat.sub_self,List.getElem?_cons_zero,Option.getD_some]at hx
    have ho:ops[acc.length]?=some o:=by simpa using (hl 0).symm
    rcases y7 _ _ hx with hx|⟨e,he,hb,hx⟩
    ·cases hx
    ·have h1:Ahead ops e.on acc.length:=.one ho (by simpa using he) hb rfl
     rcases hx with rfl|hx
     ·exact h1
     ·exact .more (hacc _ _ hx) h1
   ·rw[List.getElem?_eq_none (by rw[List.length_append,List.length_singleton];omega)]at hx
    cases hx
def Closed (ops:List Oper) (p:Nat→Bool):Prop:=∀j o,ops[j]?=some o→p j=true→∀e∈o.after,Region.binds .any e=true→p e.on=true
theorem Closed.ahead {ops:List Oper} {p:Nat→Bool} (h:Closed ops p) {i j:Nat} (ha:Ahead ops i j):p j=true→p i=true:=by
 induction ha with
 |one ho he hb hi=>intro hj;rw[←hi];exact h _ _ ho hj _ he hb
 |more _ _ ih1 ih2=>exact fun hj=>ih1 (ih2 hj)
inductive yN
 |slot (t:Nat)
 |blk (r:Nat)
inductive ug
 |pv (p:PV)
 |bk (b:Blk)
def wrB:List (Nat×Blk)→Nat→Option Blk
 |[],_=>none
 |(r',b)::ws,r=>match wrB ws r with
  |some x=>some x
  |none=>if r'=r then some b else none
def wr (e:Eff):yN→Option ug
 |.slot t=>if e.dst=some t then some (.pv e.v) else none
 |.blk r=>(wrB e.ws r).map .bk
def gets (s:St):yN→Option ug
 |.slot t=>(s.E[t]?).map .pv
 |.blk r=>(s.B[r]?).map .bk
def OL (s:St) (e:Eff):Prop:=(∀d,e.dst=some d→d < s.E.length)∧∀q∈e.ws,q.1 < s.B.length
theorem Dq:∀(ws:List (Nat×Blk)) (B:List Blk),(∀q∈ws,q.1 < B.length)→∀r,(aY B ws)[r]?=match wrB ws r with
  |some x=>some x
  |none=>B[r]?
 |[],B,_,r=>rfl
 |(r',b)::ws,B,h,r=>by
  unfold aY wrB
  rw[Dq ws _ (fun q hq=>by rw[List.length_set];exact h q (List.mem_cons_of_mem _ hq)) r]
  cases hw:wrB ws r with
  |some x=>rfl
  |none=>
   simp only
   have hlt:r' < B.length:=h _ List.mem_cons_self
   by_cases e:r'=r
   ·subst e
    simp[List.getElem?_set_self hlt]
   ·simp only[e,if_false]
    rw[List.getElem?_set_ne e]
theorem yg {s:St} {e:Eff} (h:OL s e) (x:yN):gets (bq s e) x=match wr e x with
  |some t=>some t
  |none=>gets s x:=by
 cases x with
 |slot t=>
  unfold gets wr bq Gb
  cases hd:e.dst with
  |none=>simp
  |some d=>
   have hlt:=h.1 d hd
   by_cases hdt:d=t
   ·subst hdt
    simp[List.getElem?_set_self hlt]
   ·simp[hdt,List.getElem?_set_ne hdt]
 |blk r=>
  unfold gets wr bq
  simp only
  rw[Dq e.ws s.B h.2 r]
  cases wrB e.ws r<;>rfl
theorem oL (s:St) (e:Eff):(bq s e).E.length=s.E.length∧(bq s e).B.length=s.B.length:=by
 refine⟨?_,jK _ _⟩
 unfold bq Gb
 cases e.dst<;>simp
theorem St.Me {s s':St} (h1:s.E.length=s'.E.length) (h2:s.B.length=s'.B.length) (h:∀x,gets s x=gets s' x):s=s':=by
 cases s with
 |mk E B=>
  cases s' with
  |mk E' B'=>
   have e1:E=E':=by
    apply List.ext_getElem?
    intro t
    have:=h (.slot t)
    simp only[gets]at this
    cases hx:E[t]?<;>cases hy:E'[t]?<;>simp_all
   have e2:B=B':=by
    apply List.ext_getElem?
    intro t
    have:=h (.blk t)
    simp only[gets]at this
    cases hx:B[t]?<;>cases hy:B'[t]?<;>simp_all
   rw[e1,e2]
def sel:List Eff→(Nat→Bool)→Nat→St→St
 |[],_,_,s=>s
 |e::es,p,i,s=>sel es p (i+1) (if p i then bq s e else s)
theorem Co:∀(es:List Eff) (p:Nat→Bool) (i:Nat) (s:St),(sel es p i s).E.length=s.E.length∧(sel es p i s).B.length=s.B.length
 |[],_,_,_=>⟨rfl,rfl⟩
 |e::es,p,i,s=>by
  unfold sel
  obtain⟨h1,h2⟩:=Co es p (i+1) (if p i then bq s e else s)
  rw[h1,h2]
  split
  ·exact oL s e
  ·exact⟨rfl,rfl⟩
def mY:List Eff→(Nat→Bool)→Nat→yN→Option ug→Option ug
 |[],_,_,_,x=>x
 |e::es,p,i,l,x=>mY es p (i+1) l (if p i then (match wr e l with
  |some t=>some t
  |none=>x) else x)
theorem FT {s s':St} {e:Eff} (h1:s.E.length=s'.E.length) (h2:s.B.length=s'.B.length) (h:OL s e):OL s' e:=⟨fun d hd=>by rw[←h1];exact h.1 d hd,fun q hq=>by rw[←h2];exact h.2 q hq⟩
theorem ni:∀(es:List Eff) (p:Nat→Bool) (i:Nat) (s:St) (l:yN),(∀e∈es,OL s e)→gets (sel es p i s) l=mY es p i l (gets s l)
 |[],_,_,_,_,_=>rfl
 |e::es,p,i,s,l,h=>by
  unfold sel mY
  rw[ni es p (i+1) _ l (fun e' he'=>by
   split
   ·exact FT (oL s e).1.symm (oL s e).2.symm (h e' (List.mem_cons_of_mem _ he'))
   ·exact h e' (List.mem_cons_of_mem _ he'))]
  congr 1
  split
  ·exact yg (h e List.mem_cons_self) l
  ·rfl
theorem lF {l:yN}:∀(es:List Eff) (p q:Nat→Bool) (i:Nat) (x:Option ug),(∀j e,es[j]?=some e→wr e l≠none→p (i+j)=q (i+j))→mY es p i l x=mY es q i l x
 |[],_,_,_,_,_=>rfl
 |e::es,p,q,i,x,h=>by
  unfold mY
  have e0:(if p i then (match wr e l with
    |some t=>some t
    |none=>x) else x)=(if q i then (match wr e l with
    |some t=>some t
    |none=>x) else x):=by
   cases hw:wr e l with
   |none=>simp
   |some t=>
    have:=h 0 e rfl (by rw[hw];simp)
    simp only[Nat.add_zero]at this
    rw[this]
  rw[e0]
  exact lF es p q (i+1) _ (fun j e' he' hw=>by have:=h (j+1) e' (by simpa using he') hw;simpa[Nat.add_assoc,Nat.add_comm 1 j]using this)
theorem EO {l:yN} {t:ug}:∀(es:List Eff) (p:Nat→Bool) (i j:Nat) (e:Eff) (x:Option ug),es[j]?=some e→wr e l=some t→p (i+j)=true→(∀m e',j < m→es[m]?=some e'→wr e' l≠none→p (i+m)=false)→mY es p i l x=some t
 |[],_,_,_,_,_,h,_,_,_=>by simp at h
 |e0::es,p,i,0,e,x,h,hw,hp,hn=>by
  simp only[List.getElem?_cons_zero,Option.some.injEq]at h
  subst h
  unfold mY
  simp only[Nat.add_zero]at hp
  rw[hw,hp]
  simp only[if_true]
  rw[lF es p (fun _=>false) (i+1) _ (fun m e' he' hw'=>by
   have:=hn (m+1) e' (by omega) (by simpa using he') hw'
   simpa[Nat.add_assoc,Nat.add_comm 1 m]using this)]
  have key:∀(es:List Eff) (i:Nat) (x:Option ug),mY es (fun _=>false) i l x=x:=by
   intro es
   induction es with
   |nil=>intro i x;rfl
   |cons e es ih=>intro i x;unfold mY;simpa using ih (i+1) x
  exact key _ _ _
 |e0::es,p,i,j+1,e,x,h,hw,hp,hn=>by
  unfold mY
  refine EO es p (i+1) j e _ (by simpa using h) hw (by simpa[Nat.add_assoc,Nat.add_comm 1 j]using hp) (fun m e' hm he' hw'=>?_)
  have:=hn (m+1) e' (by omega) (by simpa using he') hw'
  simpa[Nat.add_assoc,Nat.add_comm 1 m]using this
def reads (e:Eff):yN→Bool
 |.slot t=>e.tr.contains t
 |.blk r=>e.br.contains r
theorem uV:∀(ws:List (Nat×Blk)) (r:Nat),wrB ws r≠none→∃q∈ws,q.1=r
 |[],_,h=>absurd rfl h
 |(r',b)::ws,r,h=>by
  unfold wrB at h
  cases hw:wrB ws r with
  |some x=>
   obtain⟨q,h1,h2⟩:=uV ws r (by rw[hw];simp)
   exact⟨q,List.mem_cons_of_mem _ h1,h2⟩
  |none=>
   rw[hw]at h
   simp only at h
   split at h
   ·rename_i e;exact⟨_,List.mem_cons_self,e⟩
   ·exact absurd rfl h
theorem Fb {x y:Eff} {l:yN} (hx:wr x l≠none) (hy:reads y l=true∨wr y l≠none):clash x y=true:=by
 unfold clash
 cases l with
 |slot t=>
  unfold wr at hx hy
  have hxd:x.dst=some t:=by
   by_cases h:x.dst=some t
   ·exact h
   ·simp[h]at hx
  rw[hxd]
  rcases hy with hy|hy
  ·unfold reads at hy
   simp only at hy
   simp at hy
   simp[hy]
  ·have hyd:y.dst=some t:=by
    by_cases h:y.dst=some t
    ·exact h
    ·simp[h]at hy
   simp[hyd]
 |blk r=>
  unfold wr at hx hy
  have hx':wrB x.ws r≠none:=by intro h;simp[h]at hx
  obtain⟨q,hq,hqr⟩:=uV _ _ hx'
  have:(x.ws.any fun q=>y.br.contains q.1||bK y.ws q.1)=true:=by
   rw[List.any_eq_true]
   refine⟨q,hq,?_⟩
   rw[hqr]
   rcases hy with hy|hy
   ·unfold reads at hy;simp only at hy;rw[hy];rfl
   ·have hy':wrB y.ws r≠none:=by intro h;simp[h]at hy
    obtain⟨q',hq',hqr'⟩:=uV _ _ hy'
    have:bK y.ws r=true:=by
     unfold bK
     rw[List.any_eq_true]
     exact⟨q',hq',by simpa using hqr'⟩
    rw[this,Bool.or_true]
  rw[this]
  simp
theorem Mk {x y:Eff} {l:yN} (hx:reads x l=true) (hy:wr y l≠none):clash x y=true:=by
 unfold clash
 cases l with
 |slot t=>
  unfold wr at hy
  have hyd:y.dst=some t:=by
   by_cases h:y.dst=some t
   ·exact h
   ·simp[h]at hy
  unfold reads at hx
  simp only at hx
  rw[hyd]
  simp only[hx,Bool.or_true,Bool.true_or]
 |blk r=>
  unfold wr at hy
  have hy':wrB y.ws r≠none:=by intro h;simp[h]at hy
  obtain⟨q,hq,hqr⟩:=uV _ _ hy'
  have:(y.ws.any fun q=>x.br.contains q.1)=true:=by
   rw[List.any_eq_true]
   unfold reads at hx
   simp only at hx
   exact⟨q,hq,by rw[hqr];exact hx⟩
  rw[this,Bool.or_true]
end Go.Pv
namespace Go.Pv
open Go.RowKit (Below)
theorem LA {s s':St} {t:Nat} (h:gets s (.slot t)=gets s' (.slot t)):s.E.getD t .any=s'.E.getD t .any:=by
 unfold gets at h
 simp only at h
 rw[List.getD_eq_getElem?_getD,List.getD_eq_getElem?_getD]
 cases hx:s.E[t]?<;>cases hy:s'.E[t]?<;>simp_all
theorem NZ {s s':St} {t:Nat} (h:gets s (.blk t)=gets s' (.blk t)):s.B[t]?=s'.B[t]?:=by
 unfold gets at h
 simp only at h
 cases hx:s.B[t]?<;>cases hy:s'.B[t]?<;>simp_all
theorem Hf {ops:Array Oper} {s s':St} {o:Oper} (h:∀t∈gtr ops o,s.E.getD t .any=s'.E.getD t .any):jH ops s.E o=jH ops s'.E o:=by
 unfold jH
 cases hg:o.guard with
 |none=>rfl
 |some q=>
  obtain⟨j,want⟩:=q
  simp only
  cases hd:(ops[j]?).bind (·.dst) with
  |none=>rfl
  |some d=>
   have:=h d (by unfold gtr;rw[hg];simp only;rw[hd];simp)
   simp only
   rw[this]
theorem NI {Γ:Ctx} {s s':St} {tr:List Nat} (h:∀t∈tr,s.E.getD t .any=s'.E.getD t .any):evr Γ s.E tr=evr Γ s'.E tr:=by
 funext x
 cases x with
 |tmp t=>
  simp only[evr]
  by_cases ht:tr.contains t=true
  ·rw[if_pos ht,if_pos ht]
   exact h t (by simpa using ht)
  ·rw[if_neg ht,if_neg ht]
 |_=>rfl
theorem Kg {P:Program} {Γ:Ctx} {ops:Array Oper} {s s':St} {o:Oper} {id:Nat} {cr:List Orc} {e:Eff} (h:x9 P Γ ops s o id cr=some e) (hs:∀l,reads e l=true→gets s l=gets s' l):x9 P Γ ops s' o id cr=some e:=by
 have hg:∀t∈gtr ops o,t∈e.tr:=by
  intro t ht
  unfold x9 at h
  split at h
  ·cases h
  ·simp only[Option.some.injEq]at h;subst h;exact ht
  ·split at h
   ·simp only[Option.some.injEq]at h;subst h;exact List.mem_append_left _ ht
   ·cases h
 have hslot:∀t∈e.tr,s.E.getD t .any=s'.E.getD t .any:=fun t ht=>LA (hs (.slot t) (by unfold reads;simpa using ht))
 have hw:=Hf (ops:=ops) (o:=o) (s:=s) (s':=s') (fun t ht=>hslot t (hg t ht))
 unfold x9 at h ⊢
 rw[←hw]
 split at h
 ·cases h
 ·exact h
 ·split at h
  ·rename_i out hout
   simp only[Option.some.injEq]at h
   have htr:∀t∈kP o,s.E.getD t .any=s'.E.getD t .any:=fun t ht=>hslot t (by rw[←h];exact List.mem_append_right _ ht)
   have hev:=NI (Γ:=Γ) htr
   rw[←hev]
   have hget:(fun r=>if (IJ o (evr Γ s.E (kP o)) cr id).contains r then s'.B[r]? else none)=(fun r=>if (IJ o (evr Γ s.E (kP o)) cr id).contains r then s.B[r]? else none):=by
    funext r
    split
    ·rename_i hc
     exact (NZ (hs (.blk r) (by unfold reads;rw[←h];exact hc))).symm
    ·rfl
   rw[hget,hout]
   simp only
   rw[h]
  ·cases h
theorem Fj {P:Program} {Γ:Ctx} {ops:Array Oper}:∀{l:List Oper} {id:Nat} {cr:List Orc} {s:St} {es:List Eff},mI P Γ ops l id cr s=some es→es.length=l.length
 |[],_,_,_,es,h=>by simp only[mI,Option.some.injEq]at h;subst h;rfl
 |o::l,_,_,_,es,h=>by
  unfold mI at h
  split at h
  ·cases h
  ·split at h
   ·rename_i es' hes
    simp only[Option.some.injEq]at h
    subst h
    rw[List.length_cons,List.length_cons,Fj hes]
   ·cases h
theorem J2 {P:Program} {Γ:Ctx} {ops:Array Oper}:∀{l:List Oper} {id:Nat} {cr:List Orc} {s:St} {es:List Eff},mI P Γ ops l id cr s=some es→∀(i:Nat) (o:Oper),l[i]?=some o→
  ∃e id' cr',es[i]?=some e∧x9 P Γ ops ((es.take i).foldl bq s) o id' cr'=some e
 |[],_,_,_,_,_,i,o,ho=>by simp at ho
 |x::l,id,cr,s,es,h,i,o,ho=>by
  unfold mI at h
  split at h
  ·cases h
  ·rename_i e he
   split at h
   ·rename_i es' hes
    simp only[Option.some.injEq]at h
    subst h
    cases i with
    |zero=>
     simp only[List.getElem?_cons_zero,Option.some.injEq]at ho
     subst ho
     exact⟨e,id,cr,rfl,he⟩
    |succ i=>
     obtain⟨e',id',cr',h1,h2⟩:=J2 hes i o (by simpa using ho)
     exact⟨e',id',cr',by simpa using h1,by simpa using h2⟩
   ·cases h
theorem DF:∀(es:List Eff) (i k:Nat) (s:St),sel es (fun j=>decide (j < k+i)) k s=(es.take i).foldl bq s
 |[],i,k,s=>by simp[sel]
 |e::es,0,k,s=>by
  unfold sel
  simp only[Nat.add_zero,Nat.lt_irrefl,decide_false,Bool.false_eq_true,if_false,List.take_zero,List.foldl_nil]
  have key:∀(es:List Eff) (q:Nat),k≤q→sel es (fun j=>decide (j < k)) q s=s:=by
   intro es
   induction es with
   |nil=>intro q _;rfl
   |cons e es ih=>intro q hq;unfold sel;rw[if_neg (by simp;omega)];exact ih (q+1) (by omega)
  exact key es (k+1) (by omega)
 |e::es,i+1,k,s=>by
  unfold sel
  rw[if_pos (by simp)]
  have:=DF es i (k+1) (bq s e)
  simp only[List.take_succ_cons,List.foldl_cons]
  rw[←this]
  congr 1
  funext j
  congr 1
  rw[show k+(i+1)=k+1+i by omega]
theorem JC:∀(es:List Eff) (p:Nat→Bool) (k:Nat) (s:St),(∀j,j < es.length→p (k+j)=true)→sel es p k s=es.foldl bq s
 |[],_,_,_,_=>rfl
 |e::es,p,k,s,h=>by
  unfold sel
  rw[if_pos (by simpa using h 0 (by simp))]
  simp only[List.foldl_cons]
  exact JC es p (k+1) _ (fun j hj=>by have:=h (j+1) (by simp;omega);simpa[Nat.add_assoc,Nat.add_comm 1 j]using this)
theorem DX:∀(es:List Eff) (p:Nat→Bool) (k:Nat) (s:St),(∀j,p j=false)→sel es p k s=s
 |[],_,_,_,_=>rfl
 |e::es,p,k,s,h=>by
  unfold sel
  rw[h k]
  simpa using DX es p (k+1) s h
theorem zV:∀{l:List Oper} {k:Nat},AV l k=true→∀j o,l[j]?=some o→∀e∈o.after,Region.binds .any e=true→e.on < k+j
 |[],_,_,j,o,ho=>by simp at ho
 |x::l,k,h,j,o,ho=>by
  unfold AV at h
  rw[Bool.and_eq_true]at h
  intro e he hb
  cases j with
  |zero=>
   simp only[List.getElem?_cons_zero,Option.some.injEq]at ho
   subst ho
   have:=List.all_eq_true.1 h.1 e (by simpa using he)
   simp[hb]at this
   omega
  |succ j=>
   have:=zV h.2 j o (by simpa using ho) e he hb
   omega
theorem apart_spec {es:List Eff} {an:List (List Nat)} (h:rV es an=true) {i j:Nat} {x y:Eff} (hij:i < j) (hi:es[i]?=some x) (hj:es[j]?=some y) (hc:clash x y=true):i∈an.getD j []:=by
 unfold rV at h
 have hlt:=(List.getElem?_eq_some_iff.1 hj).1
 have h1:=List.all_eq_true.1 h j (List.mem_range.2 hlt)
 have h2:=List.all_eq_true.1 h1 i (List.mem_range.2 hij)
 rw[hi,hj]at h2
 simp only[hc,Bool.not_true,Bool.false_or]at h2
 simpa using h2
theorem NT {s:St} {es:List Eff} (h:KH s es=true):∀e∈es,OL s e:=by
 intro e he
 unfold KH at h
 have h1:=List.all_eq_true.1 h e he
 rw[Bool.and_eq_true]at h1
 refine⟨fun d hd=>?_,fun q hq=>?_⟩
 ·have:=h1.1
  rw[hd]at this
  simpa using this
 ·have:=List.all_eq_true.1 h1.2 q hq
  simpa using this
theorem cnt_lt {p p':Nat→Bool} {i:Nat} (hsub:∀x,p x=true→p' x=true) (hi:p i=false) (hi':p' i=true):∀l:List Nat,i∈l→l.countP (fun x=>!p' x) < l.countP (fun x=>!p x)
 |[],h=>by cases h
 |x::l,h=>by
  have mono:∀l:List Nat,l.countP (fun x=>!p' x)≤l.countP (fun x=>!p x):=by
   intro l
   apply List.countP_mono_left
   intro x _ hx
   cases hp:p x with
   |false=>rfl
   |true=>rw[hsub x hp]at hx;cases hx
  rw[List.countP_cons,List.countP_cons]
  rcases List.mem_cons.1 h with rfl|h
  ·rw[hi,hi']
   have:=mono l
   simp
   omega
  ·have:=cnt_lt hsub hi hi' l h
   have h2:(if (!p' x)=true then 1 else 0)≤(if (!p x)=true then 1 else 0):=by
    cases hp:p x with
    |false=>split<;>simp
    |true=>rw[hsub x hp];simp
   omega
theorem lu (listed:Array Bool) (i j:Nat) (hi:i < listed.size):(listed.setIfInBounds i true).getD j false=(decide (j=i)||listed.getD j false):=by
 rw[Array.getD_eq_getD_getElem?,Array.getD_eq_getD_getElem?]
 by_cases h:j=i
 ·subst h
  simp[hi]
 ·rw[Array.getElem?_setIfInBounds_ne (Ne.symm h)]
  simp[h]
section
variable {P:Program} {Γ:Ctx} {ops:Array Oper} {Q:Exit→Act→World→Prop} {s:St} {es:List Eff} {id:Nat} {cr:List Orc}
theorem KT (hX:dW P Γ.eqT) (hrun:mI P Γ ops ops.toList id cr s=some es) (hback:AV ops.toList 0=true) (hfit:KH s es=true) (hap:rV es (EJ ops.toList [])=true) (hob:∀e∈es,∀ob,e.ob=some ob→gq P Γ ob)
  (hq:∀a' w',γ Γ (es.foldl bq s) a' w'→Q .normal a' w'):∀(fuel:Nat) (listed:Array Bool) (a:Act) (w:World),listed.size=ops.size→Closed ops.toList (fun i=>listed.getD i false)→
  (List.range ops.size).countP (fun i=>!listed.getD i false)≤fuel→γ Γ (sel es (fun i=>listed.getD i false) 0 s) a w→wpAny P .any ops Q fuel listed a w:=by
 have hlen:es.length=ops.size:=by rw[Fj hrun,Array.length_toList]
 have hfitE:=NT hfit
 have hanc:=zF ops.toList ops.toList [] (fun j=>by simp) (fun j i h=>by simp at h)
 have done:∀(listed:Array Bool) (a:Act) (w:World),(∀j,j < ops.size→listed.getD j false=true)→γ Γ (sel es (fun i=>listed.getD i false) 0 s) a w→Q .normal a w:=by
  intro listed a w hall hg
  rw[JC es _ 0 s (fun j hj=>by rw[Nat.zero_add];exact hall j (by omega))]at hg
  exact hq a w hg
 have some_ready:∀(listed:Array Bool),listed.size=ops.size→Region.ready .any ops listed=[]→∀j,j < ops.size→listed.getD j false=true:=by
  intro listed hs hr j
  induction j using Nat.strongRecOn with
  |_ j ih=>
   intro hj
   cases hp:listed.getD j false with
   |true=>rfl
   |false=>
    exfalso
    have hm:j∈Region.ready .any ops listed:=by
     rw[mem_ready]
     refine⟨?_,ops[j],by simp[hj],fun e he hb=>?_⟩
     ·rw[Array.getD_eq_getD_getElem?]at hp ⊢
      cases hx:listed[j]? with
      |none=>rw[Array.getElem?_eq_none_iff]at hx;omega
      |some b=>rw[hx]at hp;simpa using hp
     ·have:=zV hback j ops[j] (by simp[hj]) e he hb
      exact ih e.on (by omega) (by omega)
    rw[hr]at hm
    cases hm
 intro fuel
 induction fuel with
 |zero=>
  intro listed a w hs hcl hcnt hg
  have hall:∀j,j < ops.size→listed.getD j false=true:=by
   intro j hj
   have:=List.countP_eq_zero.1 (Nat.le_zero.1 hcnt) j (List.mem_range.2 hj)
   simpa using this
  refine⟨?_,done listed a w hall hg⟩
  apply List.eq_nil_iff_forall_not_mem.2
  intro j hj
  obtain⟨h0,o,ho,_⟩:=mem_ready.1 hj
  have hlt:j < ops.size:=(Array.getElem?_eq_some_iff.1 ho).1
  have h1:=hall j hlt
  rw[Array.getD_eq_getD_getElem?]at h0 h1
  cases hx:listed[j]? with
  |none=>rw[Array.getElem?_eq_none_iff]at hx;omega
  |some b=>rw[hx]at h0 h1;simp at h0 h1;rw[h0]at h1;cases h1
 |succ fuel ih=>
  intro listed a w hs hcl hcnt hg
  refine⟨fun hr=>done listed a w (some_ready listed hs hr) hg,fun i hi=>?_⟩
  obtain⟨h0,o,ho,hall⟩:=mem_ready.1 hi
  have hlt:i < ops.size:=(Array.getElem?_eq_some_iff.1 ho).1
  have hls:i < listed.size:=by omega
  have hp0:listed.getD i false=false:=by
   rw[Array.getD_eq_getD_getElem?]at h0 ⊢
   cases hx:listed[i]? with
   |none=>rfl
   |some b=>rw[hx]at h0;simpa using h0
  have hol:ops.toList[i]?=some o:=by simpa using ho
  obtain⟨e,id',cr',he,heff⟩:=J2 hrun i o hol
  have hclash:∀{x y:Nat} {ex ey:Eff},x < y→es[x]?=some ex→es[y]?=some ey→clash ex ey=true→Ahead ops.toList x y:=fun hxy hx hy hc=>hanc _ _ (apart_spec hap hxy hx hy hc)
  have hread:∀l,reads e l=true→gets ((es.take i).foldl bq s) l=gets (sel es (fun j=>listed.getD j false) 0 s) l:=by
   intro l hl
   have h1:=DF es i 0 s
   rw[←h1,ni _ _ _ _ _ hfitE,ni _ _ _ _ _ hfitE]
   refine lF es _ _ 0 _ (fun j ej hj hw=>?_)
   simp only[Nat.zero_add]
   rcases Nat.lt_trichotomy j i with hji|hji|hji
   ·have hc:=Fb hw (Or.inl hl)
    have hA:=hclash hji hj he hc
    have:∀m,Ahead ops.toList m i→listed.getD m false=true:=by
     intro m hm
     have key:∀x y,Ahead ops.toList x y→y=i→listed.getD x false=true:=by
      intro x y hxy
      induction hxy with
      |one ho' he' hb' hi'=>
       intro hy
       subst hy
       rw[hol]at ho'
       injection ho' with ho'
       subst ho'
       rw[←hi']
       exact hall _ he' hb'
      |more hxm hmy _ ih2=>
       intro hy
       exact hcl.ahead hxm (ih2 hy)
     exact key m i hm rfl
    rw[this j hA]
    simpa using hji
   ·subst hji
    simp[hp0]
   ·have hc:=Mk hl hw
    have hA:=hclash hji he hj hc
    have:listed.getD j false=false:=by
     cases hb:listed.getD j false with
     |false=>rfl
     |true=>
      have:=hcl.ahead hA hb
      exact absurd (hp0.symm.trans this) (by simp)
    rw[this]
    simp
    omega
  have heff':=Kg heff hread
  have hnext:bq (sel es (fun j=>listed.getD j false) 0 s) e=sel es (fun j=>(listed.setIfInBounds i true).getD j false) 0 s:=by
   have hfe:=hfitE e (List.mem_of_getElem? he)
   obtain⟨g1,g2⟩:=Co es (fun j=>listed.getD j false) 0 s
   obtain⟨g3,g4⟩:=Co es (fun j=>(listed.setIfInBounds i true).getD j false) 0 s
   obtain⟨g5,g6⟩:=oL (sel es (fun j=>listed.getD j false) 0 s) e
   refine St.Me (by rw[g5,g1,g3]) (by rw[g6,g2,g4]) (fun l=>?_)
   rw[yg (FT g1.symm g2.symm hfe),ni _ _ _ _ _ hfitE,ni _ _ _ _ _ hfitE]
   cases hw:wr e l with
   |none=>
    refine lF es _ _ 0 _ (fun j ej hj hwj=>?_)
    simp only[Nat.zero_add]
    rw[lu listed i j hls]
    by_cases hji:j=i
    ·subst hji
     rw[he]at hj
     injection hj with hj
     subst hj
     exact absurd hw hwj
    ·simp[hji]
   |some t=>
    symm
    refine EO es _ 0 i e _ he hw (by rw[Nat.zero_add,lu listed i i hls];simp) (fun m em hm hem hwm=>?_)
    rw[Nat.zero_add,lu listed i m hls]
    have hc:=Fb (x:=e) (y:=em) (l:=l) (by rw[hw];simp) (Or.inr hwm)
    have hA:=hclash hm he hem hc
    have:listed.getD m false=false:=by
     cases hb:listed.getD m false with
     |false=>rfl
     |true=>
      have:=hcl.ahead hA hb
      exact absurd (hp0.symm.trans this) (by simp)
    rw[this]
    simp
    omega
  unfold wpOp
  rw[ho]
  refine y9 hX heff' (hob e (List.mem_of_getElem? he)) hg (fun a' w' hg'=>?_)
  refine ih _ a' w' (by simp[hs]) ?_ ?_ (by rw[←hnext];exact hg')
  ·intro j oj hoj hj e' he' hb'
   simp only at hj ⊢
   rw[lu listed i _ hls]at hj ⊢
   by_cases hji:j=i
   ·subst hji
    rw[hol]at hoj
    injection hoj with hoj
    subst hoj
    rw[hall e' he' hb',Bool.or_true]
   ·have hj':listed.getD j false=true:=by simpa[hji]using hj
    have:=hcl j oj hoj hj' e' he' hb'
    simp only at this
    rw[this,Bool.or_true]
  ·have:=cnt_lt (p:=fun j=>listed.getD j false) (p':=fun j=>(listed.setIfInBounds i true).getD j false) (i:=i) (fun x hx=>by rw[lu listed i x hls,hx,Bool.or_true]) hp0 (by rw[lu listed i i hls];simp) (List.range ops.size) (List.mem_range.2 hlt)
   omega
end
def CQ (ops:List Oper) (s:St) (es:List Eff) (draw:Bool):Bool:=!draw||(AV ops 0&&KH s es&&rV es (EJ ops []))
theorem zq (n j:Nat):(Array.replicate n false).getD j false=false:=by
 rw[Array.getD_eq_getD_getElem?,Array.getElem?_replicate]
 split<;>rfl
theorem O3 {Γ:Ctx} {s:St} {a:Act} {w:World} (h:γ Γ s a w):γ Γ s a w.drew:=by
 obtain⟨h1,k,hI,hT⟩:=h
 have he:Ext k s.B.length w k s.B.length w.drew:=⟨Nat.le_refl _,fun b hb=>⟨hb,rfl⟩,fun _ _=>⟨Nat.le_refl _,fun _=>rfl⟩⟩
 exact⟨h1,k,⟨hI.below.drew,hI.lt,hI.le,hI.qs,hI.rr.below (Below.refl _ _).drew,fun g cs hc=>aU he _ _ (hI.gl g cs hc),fun r x hx=>dG (hI.blk r x hx) he rfl rfl (fun _ _=>rfl),hI.sep,hI.inj,⟨hI.kp.fr,hI.kp.ext.trans he⟩,hI.nf,hI.hn⟩,bU he _ _ hT⟩
theorem Bb {P:Program} {Γ:Ctx} {rid:Nat} {ops:Array Oper} {draw:Bool} {Q:Exit→Act→World→Prop} {s:St} {es:List Eff} {id:Nat} {cr:List Orc} (hX:dW P Γ.eqT) (hm:P.follows .mixedOrders=true)
  (hrun:mI P Γ ops ops.toList id cr s=some es) (hck:CQ ops.toList s es draw=true) (hob:∀e∈es,∀ob,e.ob=some ob→gq P Γ ob) {a:Act} {w:World} (hg:γ Γ s a w)
  (hq:∀a' w',γ Γ (es.foldl bq s) a' w'→Q .normal a' w'):(Code.region rid ops draw).wp P Q a w:=by
 cases draw with
 |false=>
  refine wp_region ?_
  rw[List.range_eq_range']
  have:=sS hX (Q:=Q) ops.toList 0 id cr s es (fun j=>by simp) hrun hob a w hg hq
  simpa using this
 |true=>
  unfold CQ at hck
  simp only[Bool.not_true,Bool.false_or,Bool.and_eq_true]at hck
  obtain⟨⟨h1,h2⟩,h3⟩:=hck
  refine wp_region_any hm ?_
  refine KT hX hrun h1 h2 h3 hob hq _ _ _ _ (by simp) (fun j o _ hj=>absurd ((zq _ _).symm.trans hj) (by simp)) ?_ ?_
  ·refine Nat.le_trans List.countP_le_length ?_
   simp
  ·rw[DX es _ 0 s (fun j=>zq _ j)]
   exact O3 hg
end Go.Pv
namespace Go.Pv
open Go.RowKit (Below)
mutual
def dN (m:Nat):PV→Bool
 |.any=>true
 |.imm _=>true
 |.agg cs=>dO m cs
 |.tup cs=>dO m cs
 |.ptr r _ _=>decide (r < m)
 |.row r _=>decide (r < m)
 |.eptr r _ _ _ _=>decide (r < m)
 |.sub r _ _ _ _=>decide (r < m)
 |.iptr _=>true
 |.ful _ _=>true
 |.clo _ cs=>dO m cs
def dO (m:Nat):List PV→Bool
 |[]=>true
 |c::cs=>dN m c&&dO m cs
end
theorem jS (m:Nat):∀cs:List IV,dO m (cs.map .imm)=true
 |[]=>by unfold dO;rfl
 |c::cs=>by simp only[List.map_cons];unfold dO;rw[jS m cs];unfold dN;rfl
theorem Ref.low {k:K} {n m r g:Nat} {p:Value→Prop} (h:Ref k n r g p) (hr:r < m):Ref k m r g p:=⟨hr,h.2.1,h.2.2⟩
mutual
theorem oH {k:K} {n m:Nat} {w:World}:∀(p:PV) (v:Value),dN m p=true→Rep k n w p v→Rep k m w p v
 |.any,_,_,_=>bg _ _ _ _
 |.imm i,v,_,h=>by rw[aB]at h ⊢;exact h
 |.agg cs,v,hb,h=>by
  unfold dN at hb
  unfold Rep at h ⊢
  obtain⟨vs,e,hl⟩:=h
  exact⟨vs,e,vO cs vs hb hl⟩
 |.tup cs,v,hb,h=>by
  unfold dN at hb
  unfold Rep at h ⊢
  obtain⟨vs,e,hl⟩:=h
  exact⟨vs,e,xZ cs vs hb hl⟩
 |.ptr r g o,v,hb,h=>by
  unfold dN at hb
  unfold Rep at h ⊢
  exact⟨h.1,h.2.low (by simpa using hb)⟩
 |.row r g,v,hb,h=>by
  unfold dN at hb
  unfold Rep at h ⊢
  exact⟨h.1,h.2.low (by simpa using hb)⟩
 |.eptr r g sz i o,v,hb,h=>by
  unfold dN at hb
  unfold Rep at h ⊢
  exact⟨h.1,h.2.low (by simpa using hb)⟩
 |.sub r g sz i o,v,hb,h=>by
  unfold dN at hb
  unfold Rep at h ⊢
  exact⟨h.1,h.2.low (by simpa using hb)⟩
 |.iptr cs,v,_,h=>by unfold Rep at h ⊢;exact h
 |.ful _ _,v,_,h=>by unfold Rep at h ⊢;exact h
 |.clo f cs,v,hb,h=>by
  unfold dN at hb
  unfold Rep at h ⊢
  obtain⟨vs,e,hl⟩:=h
  exact⟨vs,e,xZ cs vs hb hl⟩
theorem vO {k:K} {n m:Nat} {w:World}:∀(cs:List PV) (vs:List Value),dO m cs=true→aT k n w cs vs→aT k m w cs vs
 |[],vs,_,h=>by unfold aT at h ⊢;exact h
 |c::cs,vs,hb,h=>by
  unfold dO at hb
  rw[Bool.and_eq_true]at hb
  unfold aT at h ⊢
  obtain⟨v,r,e,h0,h1,h2⟩:=h
  exact⟨v,r,e,h0,oH c v hb.1 h1,vO cs r hb.2 h2⟩
theorem xZ {k:K} {n m:Nat} {w:World}:∀(cs:List PV) (vs:List Value),dO m cs=true→aI k n w cs vs→aI k m w cs vs
 |[],vs,_,h=>by unfold aI at h ⊢;exact h
 |c::cs,vs,hb,h=>by
  unfold dO at hb
  rw[Bool.and_eq_true]at hb
  unfold aI at h ⊢
  obtain⟨v,r,e,h1,h2⟩:=h
  exact⟨v,r,e,oH c v hb.1 h1,xZ cs r hb.2 h2⟩
end
def ILe (i j:IV):Prop:=∀(Q:Nat→Prop) (w:World) (v:Value),aF Q w i v→aF Q w j v
theorem ILe.refl (i:IV):ILe i i:=fun _ _ _ h=>h
theorem ILe.nil (sz:Nat):ILe .nil (.sl sz []):=fun Q w v h=>by
 unfold aF at h ⊢
 exact⟨none,0,h,Nat.le_refl _,by simp[maxLen],fun hp=>absurd hp (by simp)⟩
theorem ILe.empty (s z:Nat):ILe (.sl s []) (.sl z []):=fun Q w v h=>by
 unfold aF at h ⊢
 obtain⟨a,c,e,h1,h2,_⟩:=h
 exact⟨a,c,e,h1,h2,fun hp=>absurd hp (by simp)⟩
inductive Wk (m:Nat):List PV→List PV→Prop
 |nil:Wk m [] []
 |keep {p:PV} {E E':List PV}:dN m p=true→Wk m E E'→Wk m (p::E) (p::E')
 |drop {p:PV} {E E':List PV}:Wk m E E'→Wk m (p::E) (.any::E')
 |le {i j:IV} {E E':List PV}:ILe i j→Wk m E E'→Wk m (.imm i::E) (.imm j::E')
theorem Wk.rep {k:K} {n m:Nat} {w:World} {E E':List PV} (h:Wk m E E'):∀{vs:List Value},aI k n w E vs→aI k m w E' vs:=by
 induction h with
 |nil=>intro vs h;unfold aI at h ⊢;exact h
 |keep hb _ ih=>
  intro vs h
  unfold aI at h ⊢
  obtain⟨v,r,e,h1,h2⟩:=h
  exact⟨v,r,e,oH _ v hb h1,ih h2⟩
 |drop _ ih=>
  intro vs h
  unfold aI at h ⊢
  obtain⟨v,r,e,h1,h2⟩:=h
  exact⟨v,r,e,bg _ _ _ _,ih h2⟩
 |le hl _ ih=>
  intro vs h
  unfold aI at h ⊢
  obtain⟨v,r,e,h1,h2⟩:=h
  exact⟨v,r,e,aB.2 (hl _ _ _ (aB.1 h1)),ih h2⟩
def fA (m:Nat):Blk→Bool
 |.dead _=>true
 |.box _ cs _=>dO m cs
 |.row _ _ _ es=>dO m es
 |.map kk _ _=>match kk with
  |.rows _ _ _ (some q)=>decide (q.2.1 < m)
  |_=>true
theorem bF.low {N mm:Nat} {k:K} {n m:Nat} {w:World} {e:TypeId} {sz:Nat} {out:Option (Nat×Nat×Nat)} (ho:∀i j g,out=some (i,j,g)→j < m):∀{ps:List (IV×IV)} {i:Nat} {es:List MapEntry} {bs:List Nat},bF N k n w mm e sz out i ps es bs→bF N k m w mm e sz out i ps es bs
 |[],_,_,_,h=>h
 |(a,x)::ps,i,es,bs,h=>by
  unfold bF at h ⊢
  obtain⟨en,r,h1,h2,h3⟩:=h
  refine⟨en,r,h1,h2,?_⟩
  rcases h3 with ⟨j,g,h4,h5,h6⟩|⟨h4,b,bs',is,h5,h6,h7,⟨g1,g2,xs,g3,g4⟩,h9⟩
  ·exact Or.inl ⟨j,g,h4,oH _ _ (by unfold dN;exact decide_eq_true (ho _ _ _ h4)) h5,h6.low ho⟩
  ·exact Or.inr ⟨h4,b,bs',is,h5,h6,h7,⟨g1,g2,xs,g3,nU rfl g4⟩,h9.low ho⟩
theorem dz.low {N:Nat} {k:K} {n m:Nat} {w:World} {v:Value} {kk:MK} {ps:List (IV×IV)} {g:Nat} (hm:dz N k n w v kk ps) (hb:fA m (.map kk g ps)=true):dz N k m w v kk ps:=by
 cases kk with
 |rows kk e sz out=>
  obtain⟨b,es,clock,bs,h1,h2,h3,h4,h5,h6⟩:=hm
  refine⟨b,es,clock,bs,h1,h2,h3,h4.low ?_,h5,h6⟩
  rintro i j g rfl
  exact of_decide_eq_true hb
 |_=>exact hm
theorem D9 {k:K} {n m:Nat} {w:World} {sz:Nat}:∀(es:List PV) (xs:List Value),dO m es=true→aL k n w sz es xs→aL k m w sz es xs
 |[],xs,_,h=>by unfold aL at h ⊢;exact h
 |c::cs,xs,hb,h=>by
  unfold dO at hb
  rw[Bool.and_eq_true]at hb
  unfold aL at h ⊢
  obtain⟨v,r,h1,h2,h3,h4,h5⟩:=h
  exact⟨v,r,h1,h2,h3,oH c v hb.1 h4,D9 cs r hb.2 h5⟩
theorem Rx {Γ:Ctx} {E E':List PV} {B B':List Blk} {m:Nat} (hB:B.take m=B') (hm:B'.length=m) (hbl:B'.all (fA m)=true) (hE:Wk m E E') {a:Act} {w:World} (h:γ Γ ⟨E,B⟩ a w) (hn0:Γ.n0≤m:=by omega):γ Γ ⟨E',B'⟩ a w:=by
 obtain⟨hd,k,hI,hT⟩:=h
 subst hB
 have hmB:m≤B.length:=by rw[List.length_take]at hm;omega
 have hat:∀r x,(B.take m)[r]?=some x→B[r]?=some x:=fun r x h=>by
  rw[List.getElem?_take]at h
  split at h
  ·exact h
  ·cases h
 refine⟨hd,k,⟨hI.below,hI.lt,hI.le,hI.qs,hI.rr,fun g cs hc=>?_,fun r x hx=>?_,fun r x b hx=>hI.sep r x b (hat r x hx),fun r r' x x' b hx hx'=>hI.inj r r' x x' b (hat r x hx) (hat r' x' hx'),⟨hI.kp.fr,by rw[hm];exact⟨hn0,hI.kp.ext.q,hI.kp.ext.r⟩⟩,fun r x b hx=>hI.nf r x b (hat r x hx),hI.hn⟩,?_⟩
 ·exact oH _ _ (by unfold dN;rfl) (hI.gl g cs hc)
 ·have hb:=List.all_eq_true.1 hbl x (List.mem_of_getElem? hx)
  have h:=hI.blk r x (hat r x hx)
  rw[hm]
  cases x with
  |dead g=>exact h
  |box g cs t=>
   obtain⟨h1,b,c,ty,h2,h3,h4,h5⟩:=h
   exact⟨h1,b,c,ty,h2,h3,h4,vO cs _ hb h5⟩
  |row e sz g es=>
   obtain⟨h1,xs,h2,h3⟩:=h
   exact⟨h1,xs,h2,D9 es xs hb h3⟩
  |map kk g ps=>exact⟨h.1,h.2.low hb⟩
 ·show aI k (B.take m).length w E' _
  rw[hm]
  exact hE.rep hT
theorem Nn {Γ:Ctx} {E:List PV} {B:List Blk} (n:Nat) {a:Act} {w:World} (h:γ Γ ⟨E,B⟩ a w):γ Γ ⟨E,B++List.replicate n (Blk.dead 0)⟩ a w:=by
 obtain⟨hd,k,hI,hT⟩:=h
 have he:Ext k B.length w ⟨k.ρ,fun r=>if r < B.length then k.G r else 0,k.Q,k.H⟩ (B++List.replicate n (Blk.dead 0)).length w:=
  ⟨by simp,fun b hb=>⟨hb,rfl⟩,fun r hr=>by simp[hr]⟩
 have hat:∀r x,(B++List.replicate n (Blk.dead 0))[r]?=some x→(r < B.length∧B[r]?=some x)∨(¬r < B.length∧x=.dead 0):=fun r x h=>by
  by_cases hr:r < B.length
  ·rw[List.getElem?_append_left hr]at h
   exact Or.inl ⟨hr,h⟩
  ·rw[List.getElem?_append_right (by omega),List.getElem?_replicate]at h
   split at h
   ·exact Or.inr ⟨hr,(Option.some.inj h).symm⟩
   ·cases h
 refine⟨hd,⟨k.ρ,fun r=>if r < B.length then k.G r else 0,k.Q,k.H⟩,⟨hI.below,hI.lt,hI.le,hI.qs,hI.rr,fun g cs hc=>aU he _ _ (hI.gl g cs hc),fun r x hx=>?_,fun r x b hx hb=>?_,fun r r' x x' b hx hx' hb hb'=>?_,⟨hI.kp.fr,hI.kp.ext.trans he⟩,fun r x b hx hb=>?_,hI.hn⟩,bU he _ _ hT⟩
 ·rcases hat r x hx with ⟨h1,h2⟩|⟨h1,h2⟩
  ·have h:=hI.blk r x h2
   cases x with
   |dead g=>exact (if_pos h1).trans h
   |box g cs t=>
    obtain⟨h3,b,c,ty,h4,h5,h6,h7⟩:=h
    exact⟨(if_pos h1).trans h3,b,c,ty,h4,h5,h6,fT he _ _ h7⟩
   |row e sz g es=>
    obtain⟨h3,xs,h4,h5⟩:=h
    exact⟨(if_pos h1).trans h3,xs,h4,bf he _ _ h5⟩
   |map kk g ps=>exact⟨(if_pos h1).trans h.1,h.2.same he (fun _ _ h=>h)⟩
  ·rw[h2]
   exact if_neg h1
 ·rcases hat r x hx with ⟨h1,h2⟩|⟨h1,h2⟩
  ·exact hI.sep r x b h2 (by cases x<;>exact hb)
  ·subst h2;cases hb
 ·rcases hat r x hx with ⟨h1,h2⟩|⟨h1,h2⟩
  ·rcases hat r' x' hx' with ⟨h3,h4⟩|⟨h3,h4⟩
   ·exact hI.inj r r' x x' b h2 h4 (by cases x<;>exact hb) (by cases x'<;>exact hb')
   ·subst h4;cases hb'
  ·subst h2;cases hb
 ·rcases hat r x hx with ⟨h1,h2⟩|⟨h1,h2⟩
  ·exact hI.nf r x b h2 (by cases x<;>exact hb)
  ·subst h2;cases hb
def AWp (P:Program) (Γ:Ctx) (c:Code) (s:St) (Q:Exit→St→Prop):Prop:=dW P Γ.eqT→∀a w,γ Γ s a w→c.wp P (fun e a w=>∃s',Q e s'∧γ Γ s' a w) a w
def thenS (K:St→Prop) (Q:Exit→St→Prop):Exit→St→Prop
 |.normal,s=>K s
 |e,s=>Q e s
def Iq (id:Nat) (Q:Exit→St→Prop):Exit→St→Prop
 |.exit id',s=>if id'=id then Q .normal s else Q (.exit id') s
 |e,s=>Q e s
section
variable {P:Program} {Γ:Ctx} {s:St} {Q:Exit→St→Prop}
theorem M6 (h:Q .normal s):AWp P Γ .skip s Q:=fun _ _ _ hg=>wp_skip ⟨s,h,hg⟩
theorem K7 {l:Nat} (h:Q .normal s):AWp P Γ (.label l) s Q:=fun _ _ _ hg=>wp_label ⟨s,h,hg⟩
theorem Nv {id:Nat} (h:Q (.exit id) s):AWp P Γ (.exit id) s Q:=fun _ _ _ hg=>wp_exit ⟨s,h,hg⟩
theorem QB (h:Q .ret s):AWp P Γ .ret s Q:=fun _ _ _ hg=>wp_ret ⟨s,h,hg⟩
theorem Qq {x y:Code} (h:∀K:St→Prop,(∀s,AWp P Γ y s Q→K s)→AWp P Γ x s (thenS K Q)):AWp P Γ (.seq x y) s Q:=fun hX a w hg=>by
 have h1:=h (fun s=>AWp P Γ y s Q) (fun _ h=>h) hX a w hg
 refine wp_seq (wp_mono h1 ?_)
 rintro e a' w' ⟨s',h2,h3⟩
 cases e with
 |normal=>exact h2 hX a' w' h3
 |_=>exact⟨s',h2,h3⟩
theorem Na {c:Operand} {x y:Code} {b:Bool} (hc:pev Γ s.E c=.imm (.bool b)) (ht:b=true→AWp P Γ x s Q) (hf:b=false→AWp P Γ y s Q):AWp P Γ (.cond c x y) s Q:=fun hX a w hg=>by
 obtain⟨hd,k,hI,hT⟩:=id hg
 have e:=dP hI hT c
 rw[hc]at e
 have ev:=ny e
 exact wp_cond_split ev (fun h=>ht h hX a w hg) (fun h=>hf h hX a w hg)
theorem LU {id:Nat} {c:Code} (h:AWp P Γ c s (Iq id Q)):AWp P Γ (.block id c) s Q:=fun hX a w hg=>by
 refine wp_block (wp_mono (h hX a w hg) ?_)
 rintro e a' w' ⟨s',h2,h3⟩
 cases e with
 |exit id'=>
  unfold Iq at h2
  unfold Exit.inBlock
  simp only at h2 ⊢
  split at h2
  ·rename_i he;rw[if_pos he];exact⟨s',h2,h3⟩
  ·rename_i he;rw[if_neg he];exact⟨s',h2,h3⟩
 |_=>exact⟨s',h2,h3⟩
theorem GQ {rid:Nat} {ops:Array Oper} {draw:Bool} {E:List PV} {B:List Blk} (n:Nat) (cr:List Orc) {es:List Eff} (hm:P.follows .mixedOrders=true) (hrun:mI P Γ ops ops.toList B.length cr ⟨E,B++List.replicate n (Blk.dead 0)⟩=some es)
  (hck:CQ ops.toList ⟨E,B++List.replicate n (Blk.dead 0)⟩ es draw=true) (hob:∀e∈es,∀ob,e.ob=some ob→gq P Γ ob) (h:Q .normal (es.foldl bq ⟨E,B++List.replicate n (Blk.dead 0)⟩)):AWp P Γ (.region rid ops draw) ⟨E,B⟩ Q:=fun hX _ _ hg=>
 Bb hX hm hrun hck hob (Nn n hg) fun _ _ hg'=>⟨_,h,hg'⟩
theorem O7 {c:Code} {ι:Type} (st:ι→St) (μ:ι→Nat) (i0:ι) (h0:∀a w,γ Γ s a w→γ Γ (st i0) a w)
  (round:∀i,AWp P Γ c (st i) fun e s'=>match e with
   |.normal=>∃i',μ i' < μ i∧∀a w,γ Γ s' a w→γ Γ (st i') a w
   |e=>Q e s'):AWp P Γ (.loop c) s Q:=fun hX a w hg=>by
 have key:∀n i a w,μ i=n→γ Γ (st i) a w→∀(b:Frame) (k:List Item) (cs:List Frame),
   ∃e a' w',(∃s',Q e s'∧γ Γ s' a' w')∧Arrives P (lone (b.at a (.code c::.inLoop c::k)) cs w) b k cs e a' w':=by
  intro n
  induction n using Nat.strongRecOn with
  |_ n ih=>
   intro i a w hn hI b k cs
   obtain⟨e,a₁,w₁,⟨s',hq,hg'⟩,harr⟩:=round i hX a w hI b (.inLoop c::k) cs
   cases e with
   |normal=>
    obtain⟨i',hlt,hI₁⟩:=hq
    obtain⟨e₂,a₂,w₂,hq₂,harr₂⟩:=ih (μ i') (hn ▸ hlt) i' a₁ w₁ rfl (hI₁ _ _ hg') b k cs
    exact⟨e₂,a₂,w₂,hq₂,.of_steps (Steps.trans harr (.one step_inLoop)) harr₂⟩
   |exit id=>exact⟨_,a₁,w₁,⟨s',hq,hg'⟩,.pass (x:=.inLoop c) rfl (fun _ _=>.inl (by simp)) harr⟩
   |goto l=>exact⟨_,a₁,w₁,⟨s',hq,hg'⟩,.pass (x:=.inLoop c) rfl (fun _ _=>.inl (by simp)) harr⟩
   |ret=>exact⟨_,a₁,w₁,⟨s',hq,hg'⟩,.pass (x:=.inLoop c) rfl (fun _ _=>.inl (by simp)) harr⟩
   |panic ch=>exact⟨_,a₁,w₁,⟨s',hq,hg'⟩,.pass (x:=.inLoop c) rfl (fun _ _=>.inl (by simp)) harr⟩
   |outgrown=>exact⟨_,a₁,w₁,⟨s',hq,hg'⟩,.pass (x:=.inLoop c) rfl (fun _ _=>.inl (by simp)) harr⟩
 intro b k cs
 obtain⟨e,a',w',hq,harr⟩:=key _ i0 a w rfl (h0 a w hg) b k cs
 exact⟨e,a',w',hq,.of_steps (.one step_loop) harr⟩
end
end Go.Pv
namespace Go.Pv
open Go.RowKit (Below)
mutual
def frz (B:List Blk):Nat→PV→Option IV
 |0,_=>none
 |_+1,.imm i=>some i
 |n+1,.agg cs=>match kL B n cs with
  |some is=>some (.agg is)
  |none=>none
 |n+1,.row r g=>match B[r]? with
  |some (.row _ sz g' es)=>if g=g' then (match kL B n es with
   |some is=>some (.sl sz is)
   |none=>none) else none
  |_=>none
 |_+1,_=>none
def kL (B:List Blk):Nat→List PV→Option (List IV)
 |0,_=>none
 |_+1,[]=>some []
 |n+1,c::cs=>match frz B n c,kL B (n+1) cs with
  |some i,some is=>some (i::is)
  |_,_=>none
end
theorem Ga (B:List Blk) (n:Nat):∀cs:List IV,kL B (n+2) (cs.map .imm)=some cs
 |[]=>by simp[kL]
 |c::cs=>by
  have:=Ga B n cs
  simp only[List.map_cons]
  unfold kL
  rw[this]
  simp[frz]
def OM (P:Program) (s:St):ResultVar→Option IV
 |.tmp t=>frz s.B 9 (s.E.getD t .any)
 |.cell t ty=>match aJ P ty,s.E.getD t .any with
  |some d,.ptr r g off=>match s.B[r]? with
   |some (.box g' cs _)=>if g=g' then (kg cs off d.size d.agg).bind (frz s.B 9) else none
   |_=>none
  |_,_=>none
def pJ (P:Program) (s:St):List ResultVar→Option (List IV)
 |[]=>some []
 |r::rs=>match OM P s r,pJ P s rs with
  |some i,some is=>some (i::is)
  |_,_=>none
def aV (Q:Nat→Prop) (w:World):List IV→List Value→Prop
 |[],vs=>vs=[]
 |c::cs,vs=>∃v r,vs=v::r∧aF Q w c v∧aV Q w cs r
def jy (Q:Nat→Prop) (w:World) (is:List IV) (v:Value):Prop:=
 match is with
 |[i]=>aF Q w i v
 |is=>∃vs:List Value,v=.tuple vs.toArray∧aV Q w is vs
def IX:List IV→PV
 |[i]=>.imm i
 |is=>.tup (is.map .imm)
def aA:List IV→List IV→Prop
 |[],js=>js=[]
 |i::is,js=>∃j r,js=j::r∧ILe i j∧aA is r
theorem aA.rep {Q:Nat→Prop} {w:World}:∀{is js:List IV} {vs:List Value},aA is js→aV Q w is vs→aV Q w js vs
 |[],js,vs,h,hr=>by unfold aA at h;subst h;exact hr
 |i::is,js,vs,h,hr=>by
  unfold aA at h
  obtain⟨j,r,e,h1,h2⟩:=h
  subst e
  unfold aV at hr ⊢
  obtain⟨v,r',e,h3,h4⟩:=hr
  exact⟨v,r',e,h1 _ _ _ h3,h2.rep h4⟩
theorem aA.len:∀{is js:List IV},aA is js→is.length=js.length
 |[],js,h=>by unfold aA at h;subst h;rfl
 |i::is,js,h=>by
  unfold aA at h
  obtain⟨j,r,e,_,h2⟩:=h
  subst e
  rw[List.length_cons,List.length_cons,h2.len]
theorem aA.res {Q:Nat→Prop} {w:World} {is js:List IV} {v:Value} (h:aA is js) (hr:jy Q w is v):jy Q w js v:=by
 match is,js,h,h.len with
 |[],[],_,_=>exact hr
 |[i],[j],h,_=>
  unfold aA at h
  obtain⟨j',r,e,h1,_⟩:=h
  injection e with e1 e2
  subst e1
  exact h1 _ _ _ hr
 |i::i2::is,j::j2::js,h,_=>
  obtain⟨vs,e,h1⟩:=hr
  exact⟨vs,e,h.rep h1⟩
theorem Jm {k:K} {n:Nat} {w:World} {is:List IV} {v:Value} (h:jy k.Q w is v):Rep k n w (IX is) v:=by
 have key:∀(is:List IV) (vs:List Value),aV k.Q w is vs→aI k n w (is.map .imm) vs:=by
  intro is
  induction is with
  |nil=>intro vs h;unfold aV at h;subst h;simp[aI]
  |cons i is ih=>
   intro vs h
   unfold aV at h
   obtain⟨v,r,e,h1,h2⟩:=h
   simp only[List.map_cons]
   unfold aI
   exact⟨v,r,e,aB.2 h1,ih r h2⟩
 match is,h with
 |[],h=>
  obtain⟨vs,e,h⟩:=h
  unfold IX Rep
  exact⟨vs,e,key _ _ h⟩
 |[i],h=>exact aB.2 h
 |i::j::is,h=>
  obtain⟨vs,e,h⟩:=h
  unfold IX Rep
  exact⟨vs,e,key _ _ h⟩
def frozen (Γ:Ctx) (k:K) (w:World) (b:Nat):Prop:=k.Q b∨(Γ.N≤b∧b < w.heap.size)
set_option linter.unusedSectionVars false
section
variable {Γ:Ctx} {k:K} {B:List Blk} {w:World} (hI:Inv Γ k B w)
include hI
mutual
theorem vF:∀(n:Nat) (p:PV) (i:IV) (v:Value),frz B n p=some i→Rep k B.length w p v→aF (frozen Γ k w) w i v
 |0,p,i,v,h,_=>by unfold frz at h;cases h
 |n+1,.imm j,i,v,h,hr=>by
  unfold frz at h
  simp only[Option.some.injEq]at h
  subst h
  exact aQ (fun b hb=>⟨Or.inl hb,rfl⟩) _ _ (aB.1 hr)
 |n+1,.agg cs,i,v,h,hr=>by
  unfold frz at h
  split at h
  ·rename_i is his
   simp only[Option.some.injEq]at h
   subst h
   obtain⟨vs,e,hl⟩:=dx.1 hr
   exact bG.2 ⟨vs,e,FM n cs is vs his hl⟩
  ·cases h
 |n+1,.row r g,i,v,h,hr=>by
  unfold frz at h
  split at h
  ·rename_i el sz g' es hb
   split at h
   ·rename_i hg
    subst hg
    split at h
    ·rename_i is his
     simp only[Option.some.injEq]at h
     subst h
     unfold Rep at hr
     obtain⟨_,_,_,h3⟩:=hr
     obtain⟨g1,xs,g2,g3⟩:=hI.blk r _ hb
     have hv:=h3 g1.symm
     have hlen:=FZ n es is his
     unfold aF
     have hform:=g2.2
     rw[←hv]at hform g2
     rcases hform with ⟨e1,e2⟩|⟨bb,cap,cur,e1,e2,e3,e4,e5,_⟩
     ·refine⟨none,0,by rw[hlen,e2];exact e1,by omega,by simp[maxLen],fun hp=>by omega⟩
     ·refine⟨some ⟨bb,0,none⟩,cap,by rw[hlen];exact e1,by omega,e5,fun _=>⟨bb,0,rfl,?_,?_⟩⟩
      ·exact Or.inr ⟨e2,(Array.getElem?_eq_some_iff.1 e3).1⟩
      ·refine Fh n es is xs his g3 bb 0 (fun j u hu=>?_)
       have:=g2.cells (g:=bb) (by rw[e1];rfl) j u hu
       rw[Nat.zero_add]
       have hadd:(⟨bb,0,none⟩:Addr).add j=⟨bb,j,none⟩:=by unfold Addr.add;split<;>simp_all
       rw[hadd]at this
       exact this
    ·cases h
   ·cases h
  ·cases h
 |n+1,.any,i,v,h,_=>by unfold frz at h;cases h
 |n+1,.tup _,i,v,h,_=>by unfold frz at h;cases h
 |n+1,.ptr _ _ _,i,v,h,_=>by unfold frz at h;cases h
 |n+1,.eptr _ _ _ _ _,i,v,h,_=>by unfold frz at h;cases h
 |n+1,.sub _ _ _ _ _,i,v,h,_=>by unfold frz at h;cases h
 |n+1,.iptr _,i,v,h,_=>by unfold frz at h;cases h
 |n+1,.ful _ _,i,v,h,_=>by unfold frz at h;cases h
 |n+1,.clo _ _,i,v,h,_=>by unfold frz at h;cases h
theorem FM:∀(n:Nat) (cs:List PV) (is:List IV) (vs:List Value),kL B n cs=some is→aT k B.length w cs vs→aO (frozen Γ k w) w is vs
 |0,_,_,_,h,_=>by unfold kL at h;cases h
 |n+1,[],is,vs,h,hr=>by
  unfold kL at h
  simp only[Option.some.injEq]at h
  subst h
  unfold aT at hr
  unfold aO
  exact hr
 |n+1,c::cs,is,vs,h,hr=>by
  unfold kL at h
  split at h
  ·rename_i j js hj hjs
   simp only[Option.some.injEq]at h
   subst h
   unfold aT at hr
   obtain⟨v,r,e,h0,h1,h2⟩:=hr
   unfold aO
   exact⟨v,r,e,h0,vF n c j v hj h1,FM (n+1) cs js r hjs h2⟩
  ·cases h
theorem FZ:∀(n:Nat) (cs:List PV) (is:List IV),kL B n cs=some is→is.length=cs.length
 |0,_,_,h=>by unfold kL at h;cases h
 |n+1,[],is,h=>by
  unfold kL at h
  simp only[Option.some.injEq]at h
  subst h
  rfl
 |n+1,c::cs,is,h=>by
  unfold kL at h
  split at h
  ·rename_i j js hj hjs
   simp only[Option.some.injEq]at h
   subst h
   rw[List.length_cons,List.length_cons,FZ (n+1) cs js hjs]
  ·cases h
theorem Fh:∀{sz:Nat} (n:Nat) (cs:List PV) (is:List IV) (xs:List Value),kL B n cs=some is→aL k B.length w sz cs xs→∀(b off:Nat),(∀j u,xs[j]?=some u→w.cell? ⟨b,off+j,none⟩=some u)→dA (frozen Γ k w) w sz b off is
 |_,0,_,_,_,h,_,_,_,_=>by unfold kL at h;cases h
 |sz,n+1,[],is,xs,h,hr,b,off,_=>by
  unfold kL at h
  simp only[Option.some.injEq]at h
  subst h
  unfold dA
  trivial
 |sz,n+1,c::cs,is,xs,h,hr,b,off,hc=>by
  unfold kL at h
  split at h
  ·rename_i j js hj hjs
   simp only[Option.some.injEq]at h
   subst h
   unfold aL at hr
   obtain⟨v,r,e,h1,h2,h3,h4⟩:=hr
   subst e
   have hsz:v.cells.toList.length=sz:=by rw[Array.length_toList];exact h1
   unfold dA
   refine⟨⟨v,vF n c j v hj h3,h1,fun q u hq=>hc q u ?_⟩,Fh (n+1) cs js r hjs h4 b (off+sz) (fun q u hq=>?_)⟩
   ·rw[List.getElem?_append_left (by have:=(Array.getElem?_eq_some_iff.1 hq).1;omega)]
    simpa using hq
   ·rw[Nat.add_assoc]
    refine hc _ u ?_
    rw[List.getElem?_append_right (by omega),hsz]
    simpa using hq
  ·cases h
end
end
def yH (tmps:Array Value):ResultVar→Sem Value
 |.tmp t=>pure (tmps.getD t undef)
 |.cell a t=>do loadVar t (←asAddr (tmps.getD a undef))
theorem pW (fn:Func) (tmps:Array Value):results fn tmps=((fn.results.mapM (yH tmps)) >>= fun vs=>pure (if h:vs.size=1 then vs[0] else .tuple vs)):=rfl
theorem pX {Q Q':Nat→Prop} {w w':World} (h:∀b,Q b→Q' b∧w'.heap[b]?=w.heap[b]?):∀{is:List IV} {vs:List Value},aV Q w is vs→aV Q' w' is vs
 |[],vs,hr=>by unfold aV at hr ⊢;exact hr
 |i::is,vs,hr=>by
  unfold aV at hr ⊢
  obtain⟨v,r,e,h1,h2⟩:=hr
  exact⟨v,r,e,aQ h _ _ h1,pX h h2⟩
theorem uj {Q Q':Nat→Prop} {w w':World} (h:∀b,Q b→Q' b∧w'.heap[b]?=w.heap[b]?) {is:List IV} {v:Value} (hr:jy Q w is v):jy Q' w' is v:=by
 match is,hr with
 |[],⟨vs,e,hr⟩=>exact⟨vs,e,pX h hr⟩
 |[i],hr=>exact aQ h _ _ hr
 |i::j::is,⟨vs,e,hr⟩=>exact⟨vs,e,pX h hr⟩
theorem DJ {P:Program} {Γ:Ctx} {k:K} {s:St} {w:World} {a:Act} (hI:Inv Γ k s.B w) (hT:aI k s.B.length w s.E a.tmps.toList) {fn:Func} {is:List IV} (h:pJ P s fn.results.toList=some is) :
  ∃v,(results fn a.tmps).run P w=.ok v w∧jy (frozen Γ k w) w is v:=by
 have one1:∀(r:ResultVar) (i:IV),OM P s r=some i→∃v,(yH a.tmps r).run P w=.ok v w∧aF (frozen Γ k w) w i v:=by
  intro r i hv
  cases r with
  |tmp t=>
   exact⟨_,rfl,vF hI 9 _ i _ hv (dP hI hT (.tmp t))⟩
  |cell t ty=>
   unfold OM at hv
   simp only at hv
   split at hv
   ·rename_i d r g off hd hx
    split at hv
    ·rename_i g' cs bt hb
     split at hv
     ·rename_i hg
      subst hg
      have e:=dP hI hT (.tmp t)
      have e2:pev Γ s.E (.tmp t)=.ptr r g off:=hx
      rw[e2]at e
      obtain⟨b,c,cty,ev,_,_,_,hh,hL⟩:=j3 hI e hb
      cases hp:kg cs off d.size d.agg with
      |none=>rw[hp]at hv;cases hv
      |some p=>
       rw[hp]at hv
       simp only[Option.bind_some]at hv
       obtain⟨v,hrun,hrep⟩:=jB (P:=P) (w:=w) hd (b:=b) hL (fun j u hj=>by rw[World.cell?,hh];simpa using hj) hp
       refine⟨v,?_,vF hI 9 p i v hv hrep⟩
       have ev':a.tmps.getD t undef=.pointer (some ⟨b,off,none⟩):=ev
       simp only[Instr.loadAt,Instr.sureAddr,Sem.run_bind,Sem.run_pure,Result.andThen_ok]at hrun
       unfold yH
       simp only[ev',asAddr,Sem.run_bind,Sem.run_pure,Result.andThen_ok]
       exact hrun
     ·cases hv
    ·cases hv
   ·cases hv
 have many:∀(rs:List ResultVar) (is:List IV),pJ P s rs=some is→∃vs,(rs.mapM (yH a.tmps)).run P w=.ok vs w∧aV (frozen Γ k w) w is vs:=by
  intro rs
  induction rs with
  |nil=>
   intro is h
   simp only[pJ,Option.some.injEq]at h
   subst h
   exact⟨[],rfl,rfl⟩
  |cons r rs ih=>
   intro is h
   unfold pJ at h
   split at h
   ·rename_i i js hi hjs
    simp only[Option.some.injEq]at h
    subst h
    obtain⟨v,h1,h2⟩:=one1 r i hi
    obtain⟨vs,h3,h4⟩:=ih js hjs
    refine⟨v::vs,?_,v,vs,rfl,h2,h4⟩
    rw[List.mapM_cons,Sem.run_bind]
    rw[h1]
    rw[Result.andThen_ok,Sem.run_bind,h3]
    rfl
   ·cases h
 obtain⟨vs,h1,h2⟩:=many _ _ h
 have hlen:∀{is:List IV} {vs:List Value},aV (frozen Γ k w) w is vs→is.length=vs.length:=by
  intro is
  induction is with
  |nil=>intro vs h;unfold aV at h;subst h;rfl
  |cons i is ih=>
   intro vs h
   unfold aV at h
   obtain⟨v,r,e,_,h⟩:=h
   subst e
   rw[List.length_cons,List.length_cons,ih h]
 have hl:=hlen h2
 have hres:(results fn a.tmps).run P w=.ok (if hh:vs.toArray.size=1 then vs.toArray[0] else .tuple vs.toArray) w:=by
  rw[pW,Sem.run_bind,show fn.results=fn.results.toList.toArray by simp,List.mapM_toArray,Sem.run_map]
  rw[h1]
  rfl
 refine⟨_,hres,?_⟩
 match is,vs,h2,hl with
 |[],[],h2,_=>exact⟨[],rfl,h2⟩
 |[i],[v],h2,_=>
  unfold aV at h2
  obtain⟨v',r,e,h3,_⟩:=h2
  injection e with e1 _
  subst e1
  exact h3
 |i::j::is,v::u::vs,h2,_=>exact⟨v::u::vs,by simp,h2⟩
def Tc (Q:Nat→Prop) (w:World) (gl:Nat→Option (List IV)):Prop:=∀g cs,gl g=some cs→Rep ⟨fun _=>undef,fun _=>0,Q,fun _=>none⟩ 0 w (.iptr cs) (.pointer (some ⟨g,0,none⟩))
def PC (P:Program) (X:Env) (f:FuncId) (args res:List IV):Prop:=
 (∀as w,(callFunc f as).run P w=.ok (.enter f as) w)∧
 ∀(Q:Nat→Prop) (w:World) (vs:List Value),(∀b,Q b→b < w.heap.size)→Tc Q w X.gl→X.R w→aV Q w args vs→
  Calls P f vs.toArray w fun e w'=>∃v Q',e=.returned v∧Below w.heap.size w w'∧(∀b,Q b→Q' b)∧(∀b,Q' b→(Q b∨w.heap.size≤b)∧b < w'.heap.size)∧jy Q' w' res v
theorem uU {k k':K} {n n':Nat} {w:World} {sz:Nat} {es:List IV} {v:Value} (hq:k'.Q=k.Q) (h:Rep k n w (.ful sz es) v):Rep k' n' w (.ful sz es) v:=by
 unfold Rep at h ⊢
 rw[hq]
 exact h
theorem bQ {k k':K} {n n':Nat} {w:World} {cs:List IV} {v:Value} (hq:k'.Q=k.Q) (h:Rep k n w (.iptr cs) v):Rep k' n' w (.iptr cs) v:=by
 unfold Rep at h ⊢
 rw[hq]
 exact h
theorem oh {k:K} {n:Nat} {w:World}:∀{is:List IV} {vs:List Value},aI k n w (is.map .imm) vs→aV k.Q w is vs
 |[],vs,h=>by unfold aV;simpa[aI]using h
 |i::is,vs,h=>by
  simp only[List.map_cons]at h
  unfold aI at h
  obtain⟨v,r,e,h1,h2⟩:=h
  unfold aV
  exact⟨v,r,e,aB.1 h1,oh h2⟩
theorem jw {k:K} {n:Nat} {w:World}:∀{is:List IV} {vs:List Value},aV k.Q w is vs→aI k n w (is.map .imm) vs
 |[],vs,h=>by unfold aV at h;simpa[aI]using h
 |i::is,vs,h=>by
  unfold aV at h
  obtain⟨v,r,e,h1,h2⟩:=h
  simp only[List.map_cons]
  unfold aI
  exact⟨v,r,e,aB.2 h1,jw h2⟩
theorem PC.OX {P:Program} {Γ:Ctx} {f:FuncId} {args res:List IV} {rs:List (Nat×Blk)} (h:PC P Γ.X f args res):gq P Γ ⟨f,args.map .imm,rs,IX res,[]⟩:=by
 refine⟨h.1,fun k B w vs hI _ hT=>?_⟩
 refine (h.2 k.Q w vs hI.lt (fun g cs hc=>bQ (k:=k) (n:=B.length) rfl (hI.gl g cs hc)) (by obtain⟨w1,h1,h2,h3⟩:=hI.rr;exact Γ.X.st w1 w h1 h3) (oh hT)).mono ?_
 rintro e w' ⟨v,Q',rfl,hb,hq,hq',hr⟩
 have he:Ext k B.length w ⟨k.ρ,k.G,Q',k.H⟩ B.length w':=⟨Nat.le_refl _,fun b hb'=>⟨hq b hb',hb.block b (hI.lt b hb')⟩,fun _ _=>⟨Nat.le_refl _,fun _=>rfl⟩⟩
 refine⟨v,⟨k.ρ,k.G,Q',k.H⟩,rfl,he,⟨hI.below.trans (hb.mono hI.le),fun b hb'=>(hq' b hb').2,Nat.le_trans hI.le hb.size,fun b hb'=>(hq' b hb').1.elim (fun h4=>hI.qs b h4) (fun h4=>Or.inr (Nat.le_trans hI.le h4)),hI.rr.below (hb.mono hI.le),fun g cs hc=>aU he _ _ (hI.gl g cs hc),fun r x hx=>?_,fun r x b hx hb'=>?_,fun r r' x x' b hx hx' h1 h2=>hI.inj r r' x x' b hx hx' (by cases x<;>exact h1) (by cases x'<;>exact h2),⟨fun b hb'=>?_,hI.kp.ext.trans he⟩,fun r x b hx hb'=>hI.nf r x b hx (by cases x<;>exact hb'),hI.hn⟩,Jm hr⟩
 ·exact dG (hI.blk r x hx) he rfl rfl (fun b hb'=>hb.block b (hI.sep r x b hx hb').2.2) (fun _ b _ _ hb'=>⟨hb',hb.block b (hI.kp.fr b (fK hb')).1⟩)
 ·have hb'':own k r x=some b:=by cases x<;>exact hb'
  obtain⟨h1,h2,h3⟩:=hI.sep r x b hx hb''
  exact⟨fun hc=>(hq' b hc).1.elim (fun h4=>h1 h4) (fun h4=>absurd h3 (by omega)),h2,Nat.lt_of_lt_of_le h3 hb.size⟩
 ·obtain⟨g1,g2,g3⟩:=hI.kp.fr b hb'
  exact⟨Nat.lt_of_lt_of_le g1 hb.size,(hb.block b g1).trans g2,fun hc=>(hq' b hc).1.elim (fun h4=>g3 h4) (fun h4=>absurd g1 (by omega))⟩
theorem enters_of {P : Program} {f : FuncId} {fn : Func} {c : Code} (hf : P.funcs[f]? = some fn) (hb : fn.body = some c) (hn : (fn.name == "runtime.NumGoroutine") = false) : ∀ as w, (callFunc f as).run P w = .ok (.enter f as) w := by
 intro as w
 unfold callFunc
 rw[Sem.run_bind,run_program,Result.andThen_ok,hf]
 simp[hn,hb]
def TB (P:Program) (fn:Func) (res:List IV):Exit→St→Prop
 |.normal,s|.ret,s=>∃is,pJ P s fn.results.toList=some is∧aA is res
 |_,_=>False
theorem PC.PY {P : Program} {X : Env} {eqT : TypeId → Option (List CK)} (hX : dW P eqT) {f : FuncId} {fn : Func} {c : Code} {args res : List IV} (hf : P.funcs[f]? = some fn) (hb : fn.body = some c) (hn : (fn.name == "runtime.NumGoroutine") = false)
  (h:∀Γ:Ctx,Γ.X=X→Γ.eqT=eqT∧Γ.n0=0→AWp P Γ c ⟨args.map .imm++List.replicate (fn.ntmps - args.length) .any,[]⟩ (TB P fn res)):PC P X f args res:=by
 refine⟨enters_of hf hb hn,fun Q w vs hQ hgl hR hvs=>?_⟩
 let k:K:=⟨fun _=>undef,fun _=>0,Q,fun _=>none⟩
 let Γ:Ctx:=⟨w.heap.size,w,X,Q,eqT,fun _=>False,w,k,0⟩
 have hI:Inv Γ k [] w:=⟨Below.refl _ _,hQ,Nat.le_refl _,fun b hb=>Or.inl hb,⟨w,hR,Nat.le_refl _,Below.refl _ _⟩,fun g cs hc=>bQ (k:=⟨fun _=>undef,fun _=>0,Q,fun _=>none⟩) (n:=0) rfl (hgl g cs hc),fun r x hx=>by simp at hx,fun r x b hx=>by simp at hx,fun r r' x x' b hx=>by simp at hx,⟨fun b hb=>(hb.elim (fun h=>h) (fun h=>h rfl):False).elim,Ext.refl _ _ _⟩,fun r x b hx=>by simp at hx,fun _ _ h=>by cases h⟩
 have hlen:args.length=vs.length:=by
  have h1:aI k 0 w (args.map .imm) vs:=jw hvs
  have:=nZ h1
  simpa using this
 have hany:∀n,aI k 0 w (List.replicate n .any) (List.replicate n undef):=by
  intro n
  induction n with
  |zero=>simp[aI]
  |succ n ih=>simp only[List.replicate_succ];unfold aI;exact⟨undef,_,rfl,bg _ _ _ _,ih⟩
 refine calls_of_wp hf hb (wp_mono (h Γ rfl ⟨rfl,rfl⟩ hX _ w ⟨rfl,k,hI,?_⟩) ?_)
 ·have h1:aI k 0 w (args.map .imm) vs:=jw hvs
  have h2:=mU h1 (hany (fn.ntmps - args.length))
  have e:(vs.toArray++Array.replicate (fn.ntmps - vs.toArray.size) undef).toList=vs++List.replicate (fn.ntmps - args.length) undef:=by
   simp[hlen]
  rw[e]
  exact h2
 ·rintro e a' w' ⟨s',h1,hd,k',hI',hT'⟩
  have fin:(∃is,pJ P s' fn.results.toList=some is∧aA is res)→a'.defers=[]∧∃v,(results fn a'.tmps).run P w'=.ok v w'∧∃u Q',Ending.returned v=.returned u∧Below w.heap.size w w'∧(∀b,Q b→Q' b)∧(∀b,Q' b→(Q b∨w.heap.size≤b)∧b < w'.heap.size)∧jy Q' w' res u:=by
   rintro⟨is,h2,h3⟩
   obtain⟨v,h4,h5⟩:=DJ hI' hT' h2
   refine⟨hd,v,h4,v,fun b=>Q b∨(w.heap.size≤b∧b < w'.heap.size),rfl,hI'.below,fun b hb=>Or.inl hb,fun b hb=>?_,?_⟩
   ·rcases hb with hb|⟨h6,h7⟩
    ·exact⟨Or.inl hb,Nat.lt_of_lt_of_le (hQ b hb) hI'.below.size⟩
    ·exact⟨Or.inr h6,h7⟩
   ·refine aA.res h3 (uj (fun b hb=>⟨?_,rfl⟩) h5)
    rcases hb with hb|hb
    ·rcases hI'.qs b hb with hc|hc
     ·exact Or.inl hc
     ·exact Or.inr ⟨hc,hI'.lt b hb⟩
    ·exact Or.inr hb
  cases e with
  |normal=>exact fin h1
  |ret=>exact fin h1
  |exit _=>exact h1.elim
  |goto _=>exact h1.elim
  |panic _=>exact h1.elim
  |outgrown=>exact h1.elim
structure Sh where
 dst:Option Nat
 keys:List Nat
 tr:List Nat
 br:List Nat
def uS (e:Eff):Sh:=⟨e.dst,e.ws.map (·.1),e.tr,e.br⟩
def Gx (x y:Sh):Bool:=
 (match x.dst with
  |some d=>y.tr.contains d||y.dst == some d
  |none=>false) ||
 (match y.dst with
  |some d=>x.tr.contains d
  |none=>false) ||
 x.keys.any (fun q=>y.br.contains q||y.keys.contains q)||y.keys.any (fun q=>x.br.contains q)
def IU (es:List Sh) (an:List (List Nat)):Bool:=
 (List.range es.length).all fun j=>(List.range j).all fun i=>
  match es[i]?,es[j]? with
  |some x,some y=>!Gx x y||(an.getD j []).contains i
  |_,_=>false
def Ru (n m:Nat) (es:List Sh):Bool:=
 es.all fun e=>(match e.dst with
  |some d=>decide (d < n)
  |none=>true)&&e.keys.all fun q=>decide (q < m)
def SB (ops:List Oper) (n m:Nat) (es:List Sh) (draw:Bool):Bool:=!draw||(AV ops 0&&Ru n m es&&IU es (EJ ops []))
theorem M5 (x y:Eff):Gx (uS x) (uS y)=clash x y:=by
 unfold Gx clash uS
 simp only[List.any_map,bK]
 congr 1
 congr 1
 congr 1
 funext q
 simp only[Function.comp]
 congr 1
 rw[Bool.eq_iff_iff]
 simp only[List.contains_iff_mem,List.mem_map,List.any_eq_true,beq_iff_eq]
theorem RQ {ops:List Oper} {s:St} {es:List Eff} {draw:Bool} (h:SB ops s.E.length s.B.length (es.map uS) draw=true):CQ ops s es draw=true:=by
 unfold SB at h
 unfold CQ
 have h1:Ru s.E.length s.B.length (es.map uS)=KH s es:=by
  unfold Ru KH
  rw[List.all_map]
  congr 1
  funext e
  simp only[Function.comp,uS,List.all_map]
  rfl
 have h2:IU (es.map uS) (EJ ops [])=rV es (EJ ops []):=by
  unfold IU rV
  rw[List.length_map]
  congr 1
  funext j
  congr 1
  funext i
  rw[List.getElem?_map,List.getElem?_map]
  cases es[i]?<;>cases es[j]?<;>simp[M5]
 rw[h1,h2]at h
 exact h
def dead (n:Nat):List Blk:=List.replicate n (.dead 0)
section
variable {P:Program} {Γ:Ctx} {Q:Exit→St→Prop} {rid:Nat} {ops:Array Oper} {draw:Bool} {y:Code} {E E':List PV} {B B':List Blk} {obs:List Ob} {sh:List Sh}
def nal:List Oper→Nat
 |[]=>0
 |o::r=>nal r+(if ru o.op then 1 else 0)
theorem Wk.eq {m:Nat} {p p':PV} {E E':List PV} (h:p=p') (hb:dN m p=true) (hE:Wk m E E'):Wk m (p::E) (p'::E'):=h ▸ Wk.keep hb hE
end
end Go.Pv
namespace Go.Pv
open Go.RowKit (Below)
set_option linter.unusedSectionVars false
mutual
def fz (r g:Nat) (i:IV):PV→PV
 |.any=>.any
 |.imm j=>.imm j
 |.agg cs=>norm (.agg (fzL r g i cs))
 |.tup cs=>.tup (fzL r g i cs)
 |.row r' g'=>if r'=r∧g'=g then .imm i else .row r' g'
 |.ptr a b c=>.ptr a b c
 |.eptr a b c d e=>.eptr a b c d e
 |.sub a b c d e=>if a=r∧b=g then (match i with
  |.sl c' is=>if c'=c then .imm (.sl c ((is.drop d).take e)) else .any
  |_=>.any) else .sub a b c d e
 |.iptr cs=>.iptr cs
 |.ful a b=>.ful a b
 |.clo f cs=>.clo f cs
def fzL (r g:Nat) (i:IV):List PV→List PV
 |[]=>[]
 |c::cs=>fz r g i c::fzL r g i cs
end
def fzB (r g:Nat) (i:IV):Blk→Blk
 |.dead g'=>.dead g'
 |.box g' cs t=>.box g' (fzL r g i cs) t
 |.row e sz g' es=>.row e sz g' (fzL r g i es)
 |.map kk g' ps=>.map kk g' ps
theorem BK (r g:Nat) (i:IV):∀cs:List IV,fzL r g i (cs.map .imm)=cs.map .imm
 |[]=>by simp[fzL]
 |c::cs=>by simp[fzL,fz,BK r g i cs]
theorem P7 {k k':K} {n:Nat} {w:World} {r g c d e:Nat} {is:List IV} (hr:∀v,Rep k n w (.row r g) v→aF k'.Q w (.sl c is) v) {v:Value} (h:Rep k n w (.sub r g c d e) v):aF k'.Q w (.sl c ((is.drop d).take e)) v:=by
 unfold Rep at h
 obtain⟨h1,h2,h3,h4⟩:=h
 by_cases hg:g=k.G r
 ·obtain⟨a,cc,ad,len,cap,e1,e2,e3,e4,e5,e6⟩:=h4 hg
  have:=hr (k.ρ r) (by
   unfold Rep
   exact⟨by rw[e4];rfl,h2,h3,fun _=>rfl⟩)
  unfold aF at this ⊢
  obtain⟨a',c',f1,f2,f3,f4⟩:=this
  rw[e4]at f1
  injection f1 with f0 f1 _
  have hlen:((is.drop d).take e).length=e:=by rw[List.length_take,List.length_drop];omega
  refine⟨a,cc,by rw[hlen,e1],by rw[hlen];exact e2,e3,fun hp=>?_⟩
  rw[hlen]at hp
  obtain⟨b,g1,g2⟩:=e6 hp
  obtain⟨b',off,g3,g4,g5⟩:=f4 (by omega)
  rw[←f0,g1]at g3
  injection g3 with g3
  injection g3 with g3 g6
  subst g3
  subst g6
  refine⟨b,d*c,g2,g4,?_⟩
  have:=qp e (rC d g5)
  rwa [Nat.zero_add]at this
 ·have:=hr (.bool true) (by
   unfold Rep
   exact⟨rfl,h2,h3,fun h=>absurd h hg⟩)
  unfold aF at this
  obtain⟨_,_,f1,_⟩:=this
  cases f1
section
variable {k k':K} {n:Nat} {w:World} {r g:Nat} {i:IV} (he:Ext k n w k' n w) (hr:∀v,Rep k n w (.row r g) v→aF k'.Q w i v)
include he hr
mutual
theorem IL:∀(p:PV) (v:Value),Rep k n w p v→Rep k' n w (fz r g i p) v
 |.any,v,_=>by unfold fz;exact bg _ _ _ _
 |.imm j,v,h=>by unfold fz;exact aU he _ _ h
 |.agg cs,v,h=>by
  unfold fz
  obtain⟨vs,e,hl⟩:=dx.1 h
  exact mW (dx.2 ⟨vs,e,Bv cs vs hl⟩)
 |.tup cs,v,h=>by
  unfold fz
  unfold Rep at h ⊢
  obtain⟨vs,e,hl⟩:=h
  exact⟨vs,e,CR cs vs hl⟩
 |.row r' g',v,h=>by
  unfold fz
  by_cases hc:r'=r∧g'=g
  ·rw[if_pos hc]
   obtain⟨rfl,rfl⟩:=hc
   exact aB.2 (hr v h)
  ·rw[if_neg hc]
   exact aU he _ _ h
 |.ptr a b c,v,h=>by unfold fz;exact aU he _ _ h
 |.eptr a b c d e,v,h=>by unfold fz;exact aU he _ _ h
 |.sub a b c d e,v,h=>by
  unfold fz
  by_cases hc:a=r∧b=g
  ·rw[if_pos hc]
   obtain⟨rfl,rfl⟩:=hc
   cases i with
   |sl c' is=>
    simp only[]
    by_cases hcc:c'=c
    ·rw[if_pos hcc]
     subst hcc
     exact aB.2 (P7 hr h)
    ·rw[if_neg hcc];exact bg _ _ _ _
   |_=>exact bg _ _ _ _
  ·rw[if_neg hc]
   exact aU he _ _ h
 |.iptr cs,v,h=>by unfold fz;exact aU he _ _ h
 |.ful _ _,v,h=>by unfold fz;exact aU he _ _ h
 |.clo f cs,v,h=>by unfold fz;exact aU he _ _ h
theorem Bv:∀(cs:List PV) (vs:List Value),aT k n w cs vs→aT k' n w (fzL r g i cs) vs
 |[],vs,h=>by unfold fzL;unfold aT at h ⊢;exact h
 |c::cs,vs,h=>by
  unfold fzL
  unfold aT at h ⊢
  obtain⟨v,q,e,h0,h1,h2⟩:=h
  exact⟨v,q,e,h0,IL c v h1,Bv cs q h2⟩
theorem CR:∀(cs:List PV) (vs:List Value),aI k n w cs vs→aI k' n w (fzL r g i cs) vs
 |[],vs,h=>by unfold fzL;unfold aI at h ⊢;exact h
 |c::cs,vs,h=>by
  unfold fzL
  unfold aI at h ⊢
  obtain⟨v,q,e,h1,h2⟩:=h
  exact⟨v,q,e,IL c v h1,CR cs q h2⟩
end
theorem JU {sz:Nat}:∀(cs:List PV) (xs:List Value),aL k n w sz cs xs→aL k' n w sz (fzL r g i cs) xs
 |[],xs,h=>by unfold fzL;unfold aL at h ⊢;exact h
 |c::cs,xs,h=>by
  unfold fzL
  unfold aL at h ⊢
  obtain⟨v,q,e,h0,h1,h2,h3⟩:=h
  exact⟨v,q,e,h0,h1,IL he hr c v h2,JU cs q h3⟩
end
theorem add0 (b j:Nat):(⟨b,0,none⟩:Addr).add j=⟨b,j,none⟩:=by unfold Addr.add;split<;>simp_all
theorem JX:∀{es:List PV} {is:List IV},kH es=some is→es=is.map .imm
 |[],is,h=>by simp only[kH,Option.some.injEq]at h;subst h;rfl
 |.imm i::es,is,h=>by
  unfold kH at h
  split at h
  ·rename_i js hj
   simp only[Option.some.injEq]at h
   subst h
   rw[List.map_cons,←JX hj]
  ·cases h
 |.any::es,is,h=>by cases h
 |.agg _::es,is,h=>by cases h
 |.tup _::es,is,h=>by cases h
 |.ptr _ _ _::es,is,h=>by cases h
 |.row _ _::es,is,h=>by cases h
 |.eptr _ _ _ _ _::es,is,h=>by cases h
 |.sub _ _ _ _ _::es,is,h=>by cases h
 |.iptr _::es,is,h=>by cases h
 |.ful _ _::es,is,h=>by cases h
 |.clo _ _::es,is,h=>by cases h
theorem Ez:∀is:List IV,kH (is.map .imm)=some is
 |[]=>rfl
 |i::is=>by simp[kH,Ez is]
theorem mJ {k:K} {Q':Nat→Prop} {n sz:Nat} {w:World} (hq:∀b,k.Q b→Q' b∧w.heap[b]?=w.heap[b]?):∀(is:List IV) (xs:List Value) (b off:Nat),aL k n w sz (is.map .imm) xs→(∀j u,xs[j]?=some u→w.cell? ⟨b,off+j,none⟩=some u)→dA Q' w sz b off is
 |[],_,_,_,_,_=>by unfold dA;trivial
 |i::is,xs,b,off,h,hc=>by
  simp only[List.map_cons]at h
  unfold aL at h
  obtain⟨v,r,e,h1,h2,h3,h4⟩:=h
  subst e
  have hsz:v.cells.toList.length=sz:=by rw[Array.length_toList];exact h1
  unfold dA
  refine⟨⟨v,aQ hq i v (aB.1 h3),h1,fun q u hq=>hc q u ?_⟩,mJ hq is r b (off+sz) h4 (fun q u hq=>?_)⟩
  ·rw[List.getElem?_append_left (by have:=(Array.getElem?_eq_some_iff.1 hq).1;omega)]
   simpa using hq
  ·rw[Nat.add_assoc]
   refine hc _ u ?_
   rw[List.getElem?_append_right (by omega),hsz]
   simpa using hq
theorem oI {es:List PV} {is:List IV} (h:es=is.map .imm):kH es=some is:=h ▸ Ez is
theorem I9 {Q:Nat→Prop} {w:World}:∀{is js:List IV} {vs:List Value},aA is js→aO Q w is vs→aO Q w js vs
 |[],js,vs,h,hr=>by unfold aA at h;subst h;exact hr
 |i::is,js,vs,h,hr=>by
  unfold aA at h
  obtain⟨j,r,e,h1,h2⟩:=h
  subst e
  unfold aO at hr ⊢
  obtain⟨v,r',e,h0,h3,h4⟩:=hr
  exact⟨v,r',e,h0,h1 _ _ _ h3,I9 h2 h4⟩
theorem JJ {Q:Nat→Prop} {w:World} {sz b:Nat}:∀{is js:List IV} {off:Nat},aA is js→dA Q w sz b off is→dA Q w sz b off js
 |[],js,off,h,hr=>by unfold aA at h;subst h;exact hr
 |i::is,js,off,h,hr=>by
  unfold aA at h
  obtain⟨j,r,e,h1,h2⟩:=h
  subst e
  unfold dA at hr ⊢
  obtain⟨⟨v,h3,h4⟩,h5⟩:=hr
  exact⟨⟨v,h1 _ _ _ h3,h4⟩,JJ h2 h5⟩
theorem aA.agg {is js:List IV} (h:aA is js):ILe (.agg is) (.agg js):=fun Q w v hr=>by
 obtain⟨vs,e,hc⟩:=bG.1 hr
 exact bG.2 ⟨vs,e,I9 h hc⟩
theorem aA.sl {sz:Nat} {is js:List IV} (h:aA is js):ILe (.sl sz is) (.sl sz js):=fun Q w v hr=>by
 unfold aF at hr ⊢
 rw[←h.len]
 obtain⟨a,c,e,h1,h2,h3⟩:=hr
 refine⟨a,c,e,h1,h2,fun hp=>?_⟩
 obtain⟨b,off,ea,hq,hR⟩:=h3 hp
 exact⟨b,off,ea,hq,JJ h hR⟩
theorem aA.refl:∀is:List IV,aA is is
 |[]=>rfl
 |i::is=>⟨i,is,rfl,ILe.refl i,aA.refl is⟩
theorem aA.cons {i j:IV} {is js:List IV} (h:ILe i j) (hs:aA is js):aA (i::is) (j::js):=⟨j,js,rfl,h,hs⟩
theorem aA.set {i j:IV} (h:ILe i j):∀(is:List IV) (k:Nat),aA (is.set k i) (is.set k j)
 |[],_=>rfl
 |_::is,0=>aA.cons h (aA.refl is)
 |_::is,k+1=>aA.cons (ILe.refl _) (aA.set h is k)
theorem Rk {Γ:Ctx} {E E':List PV} {B B':List Blk} (r:Nat) {e:TypeId} {sz g:Nat} {es:List PV} {is:List IV} (hb:B[r]?=some (.row e sz g es)) (hes:kH es=some is) {i:IV} (hi:ILe (.sl sz is) i)
  (hE:fzL r g i E=E') (hB:(B.map (fzB r g i)).set r (.dead g)=B') {a:Act} {w:World} (h:γ Γ ⟨E,B⟩ a w):γ Γ ⟨E',B'⟩ a w:=by
 obtain⟨hd,k,hI,hT⟩:=h
 have hrl:r < B.length:=(List.getElem?_eq_some_iff.1 hb).1
 let k':K:=⟨k.ρ,k.G,fun b=>k.Q b∨base (k.ρ r)=some b,k.H⟩
 have hbase:∀b,base (k.ρ r)=some b→Γ.N≤b∧b < w.heap.size:=fun b hb'=>(hI.sep r _ b hb hb').2
 have he:Ext k B.length w k' B.length w:=⟨Nat.le_refl _,fun b hb=>⟨Or.inl hb,rfl⟩,fun _ _=>⟨Nat.le_refl _,fun _=>rfl⟩⟩
 have hr0:∀v,Rep k B.length w (.row r g) v→aF k'.Q w (.sl sz is) v:=by
  intro v hv
  have hes':=JX hes
  obtain⟨xs,ev,hown,hE',hG⟩:=dD (s:=⟨E,B⟩) hI hv hb
  have hl:is.length=es.length:=by rw[hes'];simp
  unfold aF
  rcases hown.2 with ⟨e1,e2⟩|⟨b,cap,cur,e1,e2,e3,e4,e5,_⟩
  ·exact⟨none,0,by rw[hl,e2,ev];exact e1,by omega,Nat.zero_le _,fun hp=>absurd hp (by omega)⟩
  ·refine⟨some ⟨b,0,none⟩,cap,by rw[hl,ev];exact e1,by omega,e5,fun _=>⟨b,0,rfl,Or.inr (by rw[e1];rfl),?_⟩⟩
   rw[hes']at hE'
   refine mJ he.q is xs b 0 hE' (fun j u hj=>?_)
   have:=hown.cells (g:=b) (by rw[e1];rfl) j u hj
   rw[Nat.zero_add]
   have hadd:(⟨b,0,none⟩:Addr).add j=⟨b,j,none⟩:=add0 b j
   rw[hadd]at this
   exact this
 have hr:∀v,Rep k B.length w (.row r g) v→aF k'.Q w i v:=fun v h=>hi _ _ _ (hr0 v h)
 have hlen:B'.length=B.length:=by rw[←hB];simp
 have hat:∀q x,B'[q]?=some x→(q=r∧x=.dead g)∨(q≠r∧∃y,B[q]?=some y∧x=fzB r g i y):=by
  intro q x hx
  rw[←hB]at hx
  by_cases hq:q=r
  ·subst hq
   rw[List.getElem?_set_self (by simpa using hrl)]at hx
   exact Or.inl ⟨rfl,(Option.some.inj hx).symm⟩
  ·rw[List.getElem?_set_ne (Ne.symm hq),List.getElem?_map]at hx
   cases hy:B[q]? with
   |none=>rw[hy]at hx;cases hx
   |some y=>rw[hy]at hx;exact Or.inr ⟨hq,y,rfl,(Option.some.inj hx).symm⟩
 have hown:∀q x b,B'[q]?=some x→own k' q x=some b→∃y,B[q]?=some y∧own k q y=some b∧q≠r:=by
  intro q x b hx hb'
  rcases hat q x hx with ⟨_,h2⟩|⟨h1,y,h2,h3⟩
  ·subst h2;cases hb'
  ·refine⟨y,h2,?_,h1⟩
   subst h3
   cases y<;>exact hb'
 refine⟨hd,k',⟨hI.below,fun b hb'=>hb'.elim (hI.lt b) (fun h=>(hbase b h).2),hI.le,fun b hb'=>hb'.elim (hI.qs b) (fun h=>Or.inr (hbase b h).1),hI.rr,fun gg cs hc=>?_,fun q x hx=>?_,fun q x b hx hb'=>?_,fun q q' x x' b hx hx' h1 h2=>?_,⟨fun b hb'=>?_,by rw[hlen];exact hI.kp.ext.trans he⟩,fun q x b hx hb'=>?_,hI.hn⟩,?_⟩
 ·show Rep k' B'.length w _ _
  rw[hlen];exact aU he _ _ (hI.gl gg cs hc)
 ·show nW Γ k' B'.length w q x
  rw[hlen]
  rcases hat q x hx with ⟨h1,h2⟩|⟨h1,y,h2,h3⟩
  ·subst h1;subst h2
   obtain⟨g1,_⟩:=hI.blk q _ hb
   exact g1
  ·have hbk:=hI.blk q y h2
   subst h3
   cases y with
   |dead g'=>exact hbk
   |box g' cs t=>
    obtain⟨h4,b,c,ty,h5,h6,h7,h8⟩:=hbk
    exact⟨h4,b,c,ty,h5,h6,h7,Bv he hr cs _ h8⟩
   |row e' sz' g' es'=>
    obtain⟨h4,xs,h5,h6⟩:=hbk
    refine⟨h4,xs,?_,JU he hr es' xs h6⟩
    have hl:(fzL r g i es').length=es'.length:=by
     have:∀l:List PV,(fzL r g i l).length=l.length:=by
      intro l
      induction l with
      |nil=>simp[fzL]
      |cons a l ih=>simp[fzL,ih]
     exact this es'
    rw[hl]
    exact h5
   |map kk g' ps=>exact⟨hbk.1,hbk.2.same he (fun _ _ h=>h)⟩
 ·obtain⟨y,h2,h3,h4⟩:=hown q x b hx hb'
  obtain⟨g1,g2,g3⟩:=hI.sep q y b h2 h3
  refine⟨fun hq=>hq.elim g1 (fun h=>?_),g2,g3⟩
  exact h4 (hI.inj q r y _ b h2 hb h3 h)
 ·obtain⟨y,h3,h4,_⟩:=hown q x b hx h1
  obtain⟨y',h5,h6,_⟩:=hown q' x' b hx' h2
  exact hI.inj q q' y y' b h3 h5 h4 h6
 ·obtain⟨g1,g2,g3⟩:=hI.kp.fr b hb'
  exact⟨g1,g2,fun hq=>hq.elim g3 (fun h=>hI.nf r _ b hb h hb')⟩
 ·obtain⟨y,h2,h3,_⟩:=hown q x b hx hb'
  exact hI.nf q y b h2 h3
 ·show aI k' B'.length w E' _
  rw[hlen,←hE]
  exact CR he hr E _ hT
theorem Q6 {P:Program} {Γ:Ctx} {c:Code} {Q:Exit→St→Prop} {E E':List PV} {B B':List Blk} (r:Nat) {e:TypeId} {sz g:Nat} {es:List PV} {is:List IV} (hb:B[r]?=some (.row e sz g es)) (hes:kH es=some is) {i:IV} (hi:ILe (.sl sz is) i)
  (hE:fzL r g i E=E') (hB:(B.map (fzB r g i)).set r (.dead g)=B') (h:AWp P Γ c ⟨E',B'⟩ Q):AWp P Γ c ⟨E,B⟩ Q:=fun hX a w hg=>h hX a w (Rk r hb hes hi hE hB hg)
end Go.Pv
namespace Go.Pv
open Go.RowKit (Below)
set_option linter.unusedSimpArgs false
set_option linter.unusedSectionVars false
def gen:Blk→Nat
 |.dead g=>g
 |.box g _ _=>g
 |.row _ _ g _=>g
 |.map _ g _=>g
def iL (B:List Blk) (i:Nat):Nat:=match B[i]? with
 |some b=>gen b
 |none=>0
mutual
def cur (n:Nat) (G:Nat→Nat):PV→Bool
 |.any=>true
 |.imm _=>true
 |.agg cs=>dY n G cs
 |.tup cs=>dY n G cs
 |.ptr r g _=>decide (r < n)&&(g == G r)
 |.row r g=>decide (r < n)&&(g == G r)
 |.eptr r g _ _ _=>decide (r < n)&&(g == G r)
 |.sub r g _ _ _=>decide (r < n)&&(g == G r)
 |.iptr _=>true
 |.ful _ _=>true
 |.clo _ cs=>dY n G cs
def dY (n:Nat) (G:Nat→Nat):List PV→Bool
 |[]=>true
 |c::cs=>cur n G c&&dY n G cs
end
mutual
def up (f g:Nat→Nat):PV→PV
 |.any=>.any
 |.imm i=>.imm i
 |.agg cs=>.agg (upL f g cs)
 |.tup cs=>.tup (upL f g cs)
 |.ptr r _ o=>.ptr (f r) (g r) o
 |.row r _=>.row (f r) (g r)
 |.eptr r _ sz i o=>.eptr (f r) (g r) sz i o
 |.sub r _ sz i o=>.sub (f r) (g r) sz i o
 |.iptr cs=>.iptr cs
 |.ful a b=>.ful a b
 |.clo fn cs=>.clo fn (upL f g cs)
def upL (f g:Nat→Nat):List PV→List PV
 |[]=>[]
 |c::cs=>up f g c::upL f g cs
end
def upB (f g:Nat→Nat) (G:Nat):Blk→Blk
 |.dead _=>.dead G
 |.box _ cs t=>.box G (upL f g cs) t
 |.row e sz _ es=>.row e sz G (upL f g es)
 |.map kk _ ps=>.map kk G ps
def Ea (n:Nat) (G:Nat→Nat):Blk→Bool
 |.dead _=>true
 |.box _ cs _=>dY n G cs
 |.row _ _ _ es=>dY n G es
 |.map kk _ _=>!xS kk
theorem Bp (f g:Nat→Nat):∀l:List PV,(upL f g l).length=l.length
 |[]=>by simp[upL]
 |a::l=>by simp[upL,Bp f g l]
section down
variable {k k':K} {n m:Nat} {w:World} {f g G:Nat→Nat} (hQ:k'.Q=k.Q) (hρ:∀i,i < m→k'.ρ i=k.ρ (f i)) (hg:∀i,i < m→g i=k.G (f i)) (hG:∀i,i < m→k'.G i=G i)
include hQ hρ hg hG
theorem qz {r q:Nat} {p:Value→Prop} (hr:r < m) (hq:q=G r) (h:Ref k n (f r) (g r) p):Ref k' m r q p:=
 ⟨hr,by rw[hG r hr,hq];exact Nat.le_refl _,fun _=>by rw[hρ r hr];exact h.2.2 (hg r hr)⟩
mutual
theorem xC:∀(p:PV) (v:Value),cur m G p=true→Rep k n w (up f g p) v→Rep k' m w p v
 |.any,v,_,_=>bg _ _ _ _
 |.imm i,v,_,h=>by unfold up at h;rw[aB]at h ⊢;rw[hQ];exact h
 |.agg cs,v,hc,h=>by
  unfold up at h
  unfold cur at hc
  obtain⟨vs,e,hl⟩:=dx.1 h
  exact dx.2 ⟨vs,e,rU cs vs hc hl⟩
 |.tup cs,v,hc,h=>by
  unfold up at h
  unfold cur at hc
  unfold Rep at h ⊢
  obtain⟨vs,e,hl⟩:=h
  exact⟨vs,e,oq cs vs hc hl⟩
 |.ptr r q o,v,hc,h=>by
  unfold up at h
  unfold cur at hc
  unfold Rep at h ⊢
  simp only[Bool.and_eq_true,decide_eq_true_eq,beq_iff_eq]at hc
  exact⟨h.1,qz hQ hρ hg hG hc.1 hc.2 h.2⟩
 |.row r q,v,hc,h=>by
  unfold up at h
  unfold cur at hc
  unfold Rep at h ⊢
  simp only[Bool.and_eq_true,decide_eq_true_eq,beq_iff_eq]at hc
  exact⟨h.1,qz hQ hρ hg hG hc.1 hc.2 h.2⟩
 |.eptr r q sz i o,v,hc,h=>by
  unfold up at h
  unfold cur at hc
  unfold Rep at h ⊢
  simp only[Bool.and_eq_true,decide_eq_true_eq,beq_iff_eq]at hc
  exact⟨h.1,qz hQ hρ hg hG hc.1 hc.2 h.2⟩
 |.sub r q sz i o,v,hc,h=>by
  unfold up at h
  unfold cur at hc
  unfold Rep at h ⊢
  simp only[Bool.and_eq_true,decide_eq_true_eq,beq_iff_eq]at hc
  exact⟨h.1,qz hQ hρ hg hG hc.1 hc.2 h.2⟩
 |.iptr cs,v,_,h=>by unfold up at h;exact bQ hQ h
 |.ful _ _,v,_,h=>by unfold up at h;exact uU hQ h
 |.clo fn cs,v,hc,h=>by
  unfold up at h
  unfold cur at hc
  unfold Rep at h ⊢
  obtain⟨vs,e,hl⟩:=h
  exact⟨vs,e,oq cs vs hc hl⟩
theorem rU:∀(cs:List PV) (vs:List Value),dY m G cs=true→aT k n w (upL f g cs) vs→aT k' m w cs vs
 |[],vs,_,h=>by unfold upL at h;unfold aT at h ⊢;exact h
 |c::cs,vs,hc,h=>by
  unfold upL at h
  unfold dY at hc
  rw[Bool.and_eq_true]at hc
  unfold aT at h ⊢
  obtain⟨v,r,e,h0,h1,h2⟩:=h
  exact⟨v,r,e,h0,xC c v hc.1 h1,rU cs r hc.2 h2⟩
theorem oq:∀(cs:List PV) (vs:List Value),dY m G cs=true→aI k n w (upL f g cs) vs→aI k' m w cs vs
 |[],vs,_,h=>by unfold upL at h;unfold aI at h ⊢;exact h
 |c::cs,vs,hc,h=>by
  unfold upL at h
  unfold dY at hc
  rw[Bool.and_eq_true]at hc
  unfold aI at h ⊢
  obtain⟨v,r,e,h1,h2⟩:=h
  exact⟨v,r,e,xC c v hc.1 h1,oq cs r hc.2 h2⟩
end
theorem Ad {sz:Nat}:∀(cs:List PV) (xs:List Value),dY m G cs=true→aL k n w sz (upL f g cs) xs→aL k' m w sz cs xs
 |[],xs,_,h=>by unfold upL at h;unfold aL at h ⊢;exact h
 |c::cs,xs,hc,h=>by
  unfold upL at h
  unfold dY at hc
  rw[Bool.and_eq_true]at hc
  unfold aL at h ⊢
  obtain⟨v,r,e,h0,h1,h2,h3⟩:=h
  exact⟨v,r,e,h0,h1,xC hQ hρ hg hG c v hc.1 h2,Ad cs r hc.2 h3⟩
end down
section up
variable {k k':K} {n m:Nat} {w:World} {f g G:Nat→Nat} (hQ:k'.Q=k.Q) (hρ:∀i,i < m→k'.ρ (f i)=k.ρ i) (hg:∀i,i < m→k'.G (f i)=g i) (hG:∀i,i < m→k.G i=G i) (hn:∀i,i < m→f i < n)
include hQ hρ hg hG hn
theorem Ct {r q:Nat} {p:Value→Prop} (hr:r < m) (hq:q=G r) (h:Ref k m r q p):Ref k' n (f r) (g r) p:=
 ⟨hn r hr,by rw[hg r hr];exact Nat.le_refl _,fun _=>by rw[hρ r hr];exact h.2.2 (by rw[hq,hG r hr])⟩
mutual
theorem CX:∀(p:PV) (v:Value),cur m G p=true→Rep k m w p v→Rep k' n w (up f g p) v
 |.any,v,_,_=>by unfold up;exact bg _ _ _ _
 |.imm i,v,_,h=>by unfold up;rw[aB]at h ⊢;rw[hQ];exact h
 |.agg cs,v,hc,h=>by
  unfold up
  unfold cur at hc
  obtain⟨vs,e,hl⟩:=dx.1 h
  exact dx.2 ⟨vs,e,BX cs vs hc hl⟩
 |.tup cs,v,hc,h=>by
  unfold up
  unfold cur at hc
  unfold Rep at h ⊢
  obtain⟨vs,e,hl⟩:=h
  exact⟨vs,e,Cm cs vs hc hl⟩
 |.ptr r q o,v,hc,h=>by
  unfold up
  unfold cur at hc
  unfold Rep at h ⊢
  simp only[Bool.and_eq_true,decide_eq_true_eq,beq_iff_eq]at hc
  exact⟨h.1,Ct hQ hρ hg hG hn hc.1 hc.2 h.2⟩
 |.row r q,v,hc,h=>by
  unfold up
  unfold cur at hc
  unfold Rep at h ⊢
  simp only[Bool.and_eq_true,decide_eq_true_eq,beq_iff_eq]at hc
  exact⟨h.1,Ct hQ hρ hg hG hn hc.1 hc.2 h.2⟩
 |.eptr r q sz i o,v,hc,h=>by
  unfold up
  unfold cur at hc
  unfold Rep at h ⊢
  simp only[Bool.and_eq_true,decide_eq_true_eq,beq_iff_eq]at hc
  exact⟨h.1,Ct hQ hρ hg hG hn hc.1 hc.2 h.2⟩
 |.sub r q sz i o,v,hc,h=>by
  unfold up
  unfold cur at hc
  unfold Rep at h ⊢
  simp only[Bool.and_eq_true,decide_eq_true_eq,beq_iff_eq]at hc
  exact⟨h.1,Ct hQ hρ hg hG hn hc.1 hc.2 h.2⟩
 |.iptr cs,v,_,h=>by unfold up;exact bQ hQ h
 |.ful _ _,v,_,h=>by unfold up;exact uU hQ h
 |.clo fn cs,v,hc,h=>by
  unfold up
  unfold cur at hc
  unfold Rep at h ⊢
  obtain⟨vs,e,hl⟩:=h
  exact⟨vs,e,Cm cs vs hc hl⟩
theorem BX:∀(cs:List PV) (vs:List Value),dY m G cs=true→aT k m w cs vs→aT k' n w (upL f g cs) vs
 |[],vs,_,h=>by unfold upL;unfold aT at h ⊢;exact h
 |c::cs,vs,hc,h=>by
  unfold upL
  unfold dY at hc
  rw[Bool.and_eq_true]at hc
  unfold aT at h ⊢
  obtain⟨v,r,e,h0,h1,h2⟩:=h
  exact⟨v,r,e,h0,CX c v hc.1 h1,BX cs r hc.2 h2⟩
theorem Cm:∀(cs:List PV) (vs:List Value),dY m G cs=true→aI k m w cs vs→aI k' n w (upL f g cs) vs
 |[],vs,_,h=>by unfold upL;unfold aI at h ⊢;exact h
 |c::cs,vs,hc,h=>by
  unfold upL
  unfold dY at hc
  rw[Bool.and_eq_true]at hc
  unfold aI at h ⊢
  obtain⟨v,r,e,h1,h2⟩:=h
  exact⟨v,r,e,CX c v hc.1 h1,Cm cs r hc.2 h2⟩
end
theorem Jh {sz:Nat}:∀(cs:List PV) (xs:List Value),dY m G cs=true→aL k m w sz cs xs→aL k' n w sz (upL f g cs) xs
 |[],xs,_,h=>by unfold upL;unfold aL at h ⊢;exact h
 |c::cs,xs,hc,h=>by
  unfold upL
  unfold dY at hc
  rw[Bool.and_eq_true]at hc
  unfold aL at h ⊢
  obtain⟨v,r,e,h0,h1,h2,h3⟩:=h
  exact⟨v,r,e,h0,h1,CX hQ hρ hg hG hn c v hc.1 h2,Jh cs r hc.2 h3⟩
end up
def qP:List PV→PV
 |[p]=>p
 |ps=>.tup ps
def PCB (P:Program) (X:Env) (f:FuncId) (args:List PV) (B:List Blk) (res:List PV) (B':List Blk):Prop:=
 (∀as w,(callFunc f as).run P w=.ok (.enter f as) w)∧B'.length=B.length∧
 ∀(Γ:Ctx) (k:K) (w:World) (vs:List Value),Γ.X=X→Inv Γ k B w→aI k B.length w args vs→
  Calls P f vs.toArray w fun e w'=>∃v k',e=.returned v∧Ext k B.length w k' B.length w'∧Inv Γ k' B' w'∧Rep k' B.length w' (qP res) v
def idxOf (r:Nat):List Nat→Nat→Option Nat
 |[],_=>none
 |x::l,i=>if x=r then some i else idxOf r l (i+1)
theorem gN {r:Nat}:∀{l:List Nat} {i j:Nat},idxOf r l i=some j→∃q,j=i+q∧l[q]?=some r
 |[],_,_,h=>by cases h
 |x::l,i,j,h=>by
  unfold idxOf at h
  split at h
  ·rename_i e
   exact⟨0,by simpa using h.symm,by simp[e]⟩
  ·obtain⟨q,h1,h2⟩:=gN h
   exact⟨q+1,by omega,by simpa using h2⟩
theorem pY {r:Nat}:∀{l:List Nat} {i q:Nat},l.Nodup→l[q]?=some r→idxOf r l i=some (i+q)
 |[],_,_,_,h=>by simp at h
 |x::l,i,q,hn,h=>by
  rw[List.nodup_cons]at hn
  unfold idxOf
  cases q with
  |zero=>rw[if_pos (by simpa using h)];rfl
  |succ q=>
   have h':l[q]?=some r:=by simpa using h
   rw[if_neg (fun e:x=r=>hn.1 (by rw[e];exact List.mem_of_getElem? h')),pY hn.2 h']
   congr 1
   omega
theorem jN {r:Nat}:∀{l:List Nat} {i:Nat},idxOf r l i=none→r∉l
 |[],_,_=>by simp
 |x::l,i,h=>by
  unfold idxOf at h
  split at h
  ·cases h
  ·rename_i e
   have:=jN h
   simp only[List.mem_cons,not_or]
   exact⟨fun h=>e h.symm,this⟩
def xG (rs:List Nat) (f g:Nat→Nat) (B':List Blk):List (Nat×Blk):=(List.range rs.length).map fun i=>(rs.getD i 0,upB f g (g i) (B'.getD i (.dead 0)))
theorem MJ {rs:List Nat} {f g:Nat→Nat} {B':List Blk} {q:Nat×Blk} (h:q∈xG rs f g B'):∃i,i < rs.length∧q.1=rs.getD i 0∧q.2=upB f g (g i) (B'.getD i (.dead 0)):=by
 unfold xG at h
 obtain⟨i,hi,rfl⟩:=List.mem_map.1 h
 exact⟨i,List.mem_range.1 hi,rfl,rfl⟩
theorem nP {r:Nat}:∀(ws:List (Nat×Blk)) (B:List Blk),(∀q∈ws,q.1≠r)→(aY B ws)[r]?=B[r]?
 |[],_,_=>rfl
 |q::ws,B,h=>by
  unfold aY
  rw[nP ws _ (fun q hq=>h q (List.mem_cons_of_mem _ hq)),List.getElem?_set_ne (h q List.mem_cons_self)]
theorem Jt {r:Nat} {x:Blk}:∀(ws:List (Nat×Blk)) (B:List Blk),r < B.length→(r,x)∈ws→(∀q∈ws,q.1=r→q.2=x)→(aY B ws)[r]?=some x
 |[],_,_,h,_=>by cases h
 |q::ws,B,hr,h,hu=>by
  unfold aY
  by_cases hin:∃y,(r,y)∈ws
  ·obtain⟨y,hy⟩:=hin
   have:=hu _ (List.mem_cons_of_mem _ hy) rfl
   simp only at this
   subst this
   exact Jt ws _ (by simpa using hr) hy (fun q hq=>hu q (List.mem_cons_of_mem _ hq))
  ·rcases List.mem_cons.1 h with e|e
   ·subst e
    rw[nP ws _ (fun q hq e=>hin ⟨q.2,by rw[←e];exact hq⟩),List.getElem?_set_self hr]
   ·exact absurd ⟨x,e⟩ hin
theorem qW {k:K} {Γ:Ctx} {n r:Nat} {w:World} {x:Blk} (h:nW Γ k n w r x):k.G r=gen x:=by
 cases x with
 |dead g=>exact h
 |box g cs t=>exact h.1
 |row e sz g es=>exact h.1
 |map kk g ps=>exact h.1
theorem PS (f g:Nat→Nat) (G:Nat) (x:Blk):gen (upB f g G x)=G:=by cases x<;>rfl
theorem Ju {k k':K} {i r:Nat} (f g:Nat→Nat) (G:Nat) (x:Blk) (h:k'.ρ i=k.ρ r):own k' i x=own k r (upB f g G x):=by cases x<;>simp[own,upB,h]
theorem BJ {B:List Blk} {i:Nat} {x:Blk} (h:B[i]?=some x):iL B i=gen x:=by unfold iL;rw[h]
theorem PCB.OX {P:Program} {Γ:Ctx} {f:FuncId} {args:List PV} {B B':List Blk} {res:List PV} (h:PCB P Γ.X f args B res B') (rs:List Nat) (g g':Nat→Nat) (hnd:rs.Nodup) (hl:rs.length=B.length)
  (hca:dY B.length (iL B) args=true) (hcb:B.all (Ea B.length (iL B))=true) (hcr:cur B.length (iL B') (qP res)=true) (hcb':B'.all (Ea B.length (iL B'))=true)
  (hg':∀i,i < B.length→g i≤g' i∧(g i=g' i→iL B' i=iL B i)) {ors:List (Nat×Blk)} (hrs:∀i x,B[i]?=some x→(rs.getD i 0,upB (fun i=>rs.getD i 0) g (g i) x)∈ors) :
  gq P Γ ⟨f,upL (fun i=>rs.getD i 0) g args,ors,up (fun i=>rs.getD i 0) g' (qP res),xG rs (fun i=>rs.getD i 0) g' B'⟩:=by
 obtain⟨h1,hB',h2⟩:=h
 refine⟨h1,fun k Bc w vs hI hR hT=>?_⟩
 simp only at hR hT ⊢
 generalize hf:(fun i=>rs.getD i 0)=F at hrs hR hT ⊢
 have hF:∀i,F i=rs.getD i 0:=fun i=>by rw[←hf]
 have hFi:∀i,i < B.length→rs[i]?=some (F i):=fun i hi=>by
  rw[hF,List.getD_eq_getElem?_getD,List.getElem?_eq_getElem (by omega)];rfl
 have hat:∀i x,B[i]?=some x→Bc[F i]?=some (upB F g (g i) x):=fun i x hx=>hR _ _ (by rw[hF];exact hrs i x hx)
 have hlt:∀i,i < B.length→F i < Bc.length:=fun i hi=>by
  have:=hat i B[i] (List.getElem?_eq_getElem hi)
  exact (List.getElem?_eq_some_iff.1 this).1
 have hinj:∀i j,i < B.length→j < B.length→F i=F j→i=j:=fun i j hi hj e=>by
  have e1:=pY (i:=0) hnd (hFi i hi)
  have e2:=pY (i:=0) hnd (hFi j hj)
  rw[e,e2]at e1
  simp only[Option.some.injEq]at e1
  omega
 have hgk:∀i,i < B.length→g i=k.G (F i):=fun i hi=>by
  have:=qW (hI.blk _ _ (hat i B[i] (List.getElem?_eq_getElem hi)))
  rw[PS]at this
  exact this.symm
 let k1:K:=⟨fun i=>k.ρ (F i),iL B,k.Q,fun _=>none⟩
 let oth:Nat→Prop:=fun b=>∃r x,Bc[r]?=some x∧own k r x=some b∧∀i,i < B.length→F i≠r
 let Γ1:Ctx:=⟨Γ.N,Γ.w0,Γ.X,Γ.Q0,Γ.eqT,fun b=>kept Γ k b∨oth b,w,k1,B.length⟩
 have hown:∀i x b,B[i]?=some x→own k1 i x=some b→own k (F i) (upB F g (g i) x)=some b:=fun i x b hx hb=>by
  rw[←Ju (k:=k) (k':=k1) F g (g i) x rfl];exact hb
 have hblt:∀{i:Nat} {x:Blk},B[i]?=some x→i < B.length:=fun hx=>(List.getElem?_eq_some_iff.1 hx).1
 have hcbk:∀i x,B[i]?=some x→Ea B.length (iL B) x=true:=fun i x hx=>List.all_eq_true.1 hcb x (List.mem_of_getElem? hx)
 have hI1:Inv Γ1 k1 B w:=by
  refine⟨hI.below,hI.lt,hI.le,hI.qs,hI.rr,fun gg cs hc=>bQ (k:=k) (n:=Bc.length) rfl (hI.gl gg cs hc),fun i x hx=>?_,fun i x b hx hb=>hI.sep _ _ b (hat i x hx) (hown i x b hx hb),fun i j x y b hx hy hb hc=>hinj i j (hblt hx) (hblt hy) (hI.inj _ _ _ _ b (hat i x hx) (hat j y hy) (hown i x b hx hb) (hown j y b hy hc)),⟨fun b hb=>?_,Ext.refl _ _ _⟩,fun i x b hx hb hb'=>?_,fun _ _ h=>by cases h⟩
  ·have hbk:=hI.blk _ _ (hat i x hx)
   have hcx:=hcbk i x hx
   have hgi:=BJ hx
   cases x with
   |dead q=>exact hgi
   |box q cs t=>
    obtain⟨_,b,c,ty,h3,h4,h5,h6⟩:=hbk
    exact⟨hgi,b,c,ty,h3,h4,h5,rU (k:=k) (k':=k1) (m:=B.length) (G:=iL B) rfl (fun _ _=>rfl) hgk (fun _ _=>rfl) cs _ hcx h6⟩
   |row e sz q es=>
    obtain⟨_,xs,h3,h4⟩:=hbk
    rw[Bp]at h3
    exact⟨hgi,xs,h3,Ad (k:=k) (k':=k1) (m:=B.length) (G:=iL B) rfl (fun _ _=>rfl) hgk (fun _ _=>rfl) es _ hcx h4⟩
   |map kk q ps=>exact⟨hgi,hbk.2.plain rfl (by unfold Ea at hcx;simpa using hcx)⟩
  ·have hbF:Γ1.F b:=hb.elim (fun h=>h) (fun h=>(h rfl).elim)
   have hmem:w.heap[b]?=memo Γ1 k1 b:=by unfold memo;rw[if_pos hbF]
   rcases hbF with hb|⟨r,x,hx,ho,_⟩
   ·obtain⟨g1,_,g3⟩:=hI.kp.fr b hb
    exact⟨g1,hmem,g3⟩
   ·obtain⟨g1,_,g3⟩:=hI.sep r x b hx ho
    exact⟨g3,hmem,g1⟩
  ·have ho:=hown i x b hx hb
   have hb':Γ1.F b:=hb'.elim (fun h=>h) (fun h=>(h rfl).elim)
   rcases hb' with hb'|⟨r,y,hy,ho',hne⟩
   ·exact hI.nf _ _ b (hat i x hx) ho hb'
   ·exact hne i (hblt hx) (hI.inj _ _ _ _ b (hat i x hx) hy ho ho')
 have hT1:aI k1 B.length w args vs:=oq (k:=k) (k':=k1) (m:=B.length) (G:=iL B) rfl (fun _ _=>rfl) hgk (fun _ _=>rfl) args vs hca hT
 refine (h2 Γ1 k1 w vs rfl hI1 hT1).mono ?_
 rintro e w' ⟨v,k2,rfl,he,hI2,hv⟩
 have hmem:∀q∈xG rs F g' B',∃i,i < B.length∧q.1=F i∧q.2=upB F g' (g' i) (B'.getD i (.dead 0)):=fun q hq=>by
  obtain⟨i,h3,h4,h5⟩:=MJ hq
  exact⟨i,by omega,by rw[h4,hF],h5⟩
 have hset:∀i x,B'[i]?=some x→(aY Bc (xG rs F g' B'))[F i]?=some (upB F g' (g' i) x):=fun i x hx=>by
  have hi:i < B.length:=by have:=(List.getElem?_eq_some_iff.1 hx).1;omega
  have hxe:B'.getD i (.dead 0)=x:=by rw[List.getD_eq_getElem?_getD,hx];rfl
  refine Jt _ _ (hlt i hi) ?_ (fun q hq hqe=>?_)
  ·unfold xG
   refine List.mem_map.2 ⟨i,List.mem_range.2 (by omega),?_⟩
   rw[hxe,←hF]
  ·obtain⟨j,h3,h4,h5⟩:=hmem q hq
   have:=hinj j i h3 hi (h4.symm.trans hqe)
   subst this
   rw[h5,hxe]
 have hoth:∀r,(∀i,i < B.length→F i≠r)→(aY Bc (xG rs F g' B'))[r]?=Bc[r]?:=fun r hr=>by
  refine nP _ _ (fun q hq e=>?_)
  obtain⟨i,h3,h4,_⟩:=hmem q hq
  exact hr i h3 (h4.symm.trans e)
 have hsplit:∀r,(∃i,i < B.length∧F i=r)∨∀i,i < B.length→F i≠r:=fun r=>by
  by_cases hh:∃i,i < B.length∧F i=r
  ·exact Or.inl hh
  ·exact Or.inr fun i hi e=>hh ⟨i,hi,e⟩
 have hfi:∀i,i < B.length→idxOf (F i) rs 0=some i:=fun i hi=>by rw[pY hnd (hFi i hi),Nat.zero_add]
 have hfn:∀r,(∀i,i < B.length→F i≠r)→idxOf r rs 0=none:=fun r hr=>by
  cases hc:idxOf r rs 0 with
  |none=>rfl
  |some j=>
   obtain⟨q,h3,h4⟩:=gN hc
   have hq:q < B.length:=by have:=(List.getElem?_eq_some_iff.1 h4).1;omega
   rw[hFi q hq]at h4
   exact absurd (Option.some.inj h4) (hr q hq)
 let k3:K:=⟨fun r=>match idxOf r rs 0 with|some i=>k2.ρ i|none=>k.ρ r,fun r=>match idxOf r rs 0 with|some i=>g' i|none=>k.G r,k2.Q,k.H⟩
 have h3ρ:∀i,i < B.length→k3.ρ (F i)=k2.ρ i:=fun i hi=>by show (match idxOf (F i) rs 0 with|some i=>k2.ρ i|none=>k.ρ (F i))=_;rw[hfi i hi]
 have h3G:∀i,i < B.length→k3.G (F i)=g' i:=fun i hi=>by show (match idxOf (F i) rs 0 with|some i=>g' i|none=>k.G (F i))=_;rw[hfi i hi]
 have h3ρ':∀r,(∀i,i < B.length→F i≠r)→k3.ρ r=k.ρ r:=fun r hr=>by show (match idxOf r rs 0 with|some i=>k2.ρ i|none=>k.ρ r)=_;rw[hfn r hr]
 have h3G':∀r,(∀i,i < B.length→F i≠r)→k3.G r=k.G r:=fun r hr=>by show (match idxOf r rs 0 with|some i=>g' i|none=>k.G r)=_;rw[hfn r hr]
 have hk2G:∀i,i < B.length→k2.G i=iL B' i:=fun i hi=>by
  have hx:B'[i]?=some B'[i]:=List.getElem?_eq_getElem (by omega)
  rw[qW (hI2.blk i _ hx),BJ hx]
 have hE:Ext k Bc.length w k3 Bc.length w':=by
  refine⟨Nat.le_refl _,fun b hb=>he.q b hb,fun r _=>?_⟩
  rcases hsplit r with ⟨i,hi,rfl⟩|hr
  ·rw[h3G i hi,h3ρ i hi,←hgk i hi]
   refine⟨(hg' i hi).1,fun e=>?_⟩
   refine ((he.r i hi).2 ?_).trans rfl
   rw[hk2G i hi]
   exact (hg' i hi).2 e.symm
  ·rw[h3G' r hr,h3ρ' r hr]
   exact⟨Nat.le_refl _,fun _=>rfl⟩
 have hcbk':∀i x,B'[i]?=some x→Ea B.length (iL B') x=true:=fun i x hx=>List.all_eq_true.1 hcb' x (List.mem_of_getElem? hx)
 have hlen:(aY Bc (xG rs F g' B')).length=Bc.length:=jK _ _
 have cases3:∀r x,(aY Bc (xG rs F g' B'))[r]?=some x→(∃i y,i < B.length∧F i=r∧B'[i]?=some y∧x=upB F g' (g' i) y)∨((∀i,i < B.length→F i≠r)∧Bc[r]?=some x):=fun r x hx=>by
  rcases hsplit r with ⟨i,hi,rfl⟩|hr
  ·have hy:B'[i]?=some B'[i]:=List.getElem?_eq_getElem (by omega)
   rw[hset i _ hy]at hx
   exact Or.inl ⟨i,_,hi,rfl,hy,(Option.some.inj hx).symm⟩
  ·rw[hoth r hr]at hx
   exact Or.inr ⟨hr,hx⟩
 have own2:∀i y,i < B.length→own k3 (F i) (upB F g' (g' i) y)=own k2 i y:=fun i y hi=>(Ju F g' (g' i) y (h3ρ i hi).symm).symm
 have own0:∀r x,(∀i,i < B.length→F i≠r)→own k3 r x=own k r x:=fun r x hr=>fG (h3ρ' r hr)
 have hothb:∀r x b,(∀i,i < B.length→F i≠r)→Bc[r]?=some x→own k r x=some b→Γ1.F b:=fun r x b hr hx hb=>Or.inr ⟨r,x,hx,hb,hr⟩
 have hsame:∀b,Γ1.F b→w'.heap[b]?=w.heap[b]?:=fun b hb=>by
  have h:=(hI2.kp.fr b (Or.inl hb)).2.1
  unfold memo at h
  rwa [if_pos hb]at h
 refine⟨v,k3,rfl,hE,⟨hI2.below,hI2.lt,hI2.le,hI2.qs,hI2.rr,fun gg cs hc=>bQ (k:=k2) (n:=B'.length) rfl (hI2.gl gg cs hc),fun r x hx=>?_,fun r x b hx hb=>?_,fun r r' x x' b hx hx' hb hb'=>?_,⟨fun b hb=>?_,by rw[hlen];exact hI.kp.ext.trans hE⟩,fun r x b hx hb hb'=>?_,hI.hn⟩,?_⟩
 ·rw[hlen]
  rcases cases3 r x hx with ⟨i,y,hi,rfl,hy,rfl⟩|⟨hr,hx'⟩
  ·have hbk:=hI2.blk i y hy
   have hcx:=hcbk' i y hy
   rw[hB']at hbk
   cases y with
   |dead q=>exact h3G i hi
   |box q cs t=>
    obtain⟨_,b,c,ty,h3,h4,h5,h6⟩:=hbk
    exact⟨h3G i hi,b,c,ty,by rw[h3ρ i hi];exact h3,h4,h5,BX (k:=k2) (k':=k3) (n:=Bc.length) (m:=B.length) (G:=iL B') rfl h3ρ h3G hk2G hlt cs _ hcx h6⟩
   |row e sz q es=>
    obtain⟨_,xs,h3,h4⟩:=hbk
    exact⟨h3G i hi,xs,by rw[Bp,h3ρ i hi];exact h3,Jh (k:=k2) (k':=k3) (n:=Bc.length) (m:=B.length) (G:=iL B') rfl h3ρ h3G hk2G hlt es _ hcx h4⟩
   |map kk q ps=>exact⟨h3G i hi,by rw[h3ρ i hi];exact hbk.2.plain rfl (by unfold Ea at hcx;simpa using hcx)⟩
  ·exact dG (hI.blk r x hx') hE (h3ρ' r hr) (h3G' r hr) (fun b hb=>hsame b (hothb r x b hr hx' hb)) (fun _ b _ _ hb=>⟨hb,hsame b (Or.inl (fK hb))⟩)
 ·rcases cases3 r x hx with ⟨i,y,hi,rfl,hy,rfl⟩|⟨hr,hx'⟩
  ·rw[own2 i y hi]at hb
   exact hI2.sep i y b hy hb
  ·rw[own0 r x hr]at hb
   obtain⟨g1,_,g3⟩:=hI2.kp.fr b (Or.inl (hothb r x b hr hx' hb))
   exact⟨g3,(hI.sep r x b hx' hb).2.1,g1⟩
 ·rcases cases3 r x hx with ⟨i,y,hi,rfl,hy,rfl⟩|⟨hr,hx1⟩<;>rcases cases3 r' x' hx' with ⟨j,z,hj,rfl,hz,rfl⟩|⟨hr',hx2⟩
  ·rw[own2 i y hi]at hb
   rw[own2 j z hj]at hb'
   rw[hI2.inj i j y z b hy hz hb hb']
  ·rw[own2 i y hi]at hb
   rw[own0 r' x' hr']at hb'
   exact absurd (Or.inl (hothb r' x' b hr' hx2 hb')) (hI2.nf i y b hy hb)
  ·rw[own0 r x hr]at hb
   rw[own2 j z hj]at hb'
   exact absurd (Or.inl (hothb r x b hr hx1 hb)) (hI2.nf j z b hz hb')
  ·rw[own0 r x hr]at hb
   rw[own0 r' x' hr']at hb'
   exact hI.inj r r' x x' b hx1 hx2 hb hb'
 ·obtain⟨g1,g2,g3⟩:=hI2.kp.fr b (Or.inl (Or.inl hb))
  exact⟨g1,(hsame b (Or.inl hb)).trans (hI.kp.fr b hb).2.1,g3⟩
 ·rcases cases3 r x hx with ⟨i,y,hi,rfl,hy,rfl⟩|⟨hr,hx1⟩
  ·rw[own2 i y hi]at hb
   exact hI2.nf i y b hy hb (Or.inl (Or.inl hb'))
  ·rw[own0 r x hr]at hb
   exact hI.nf r x b hx1 hb hb'
 ·exact CX (k:=k2) (k':=k3) (n:=Bc.length) (m:=B.length) (G:=iL B') rfl h3ρ h3G hk2G hlt (qP res) v hcr hv
def PCR (P:Program) (X:Env) (f:FuncId) (args:List IV) (e:TypeId) (sz:Nat) (is:List IV):Prop:=
 (∀as w,(callFunc f as).run P w=.ok (.enter f as) w)∧
 ∀(Q:Nat→Prop) (w:World) (vs:List Value),(∀b,Q b→b < w.heap.size)→Tc Q w X.gl→X.R w→aV Q w args vs→
  Calls P f vs.toArray w fun en w'=>∃v Q' xs,en=.returned v∧Below w.heap.size w w'∧(∀b,Q b→Q' b)∧(∀b,Q' b→(Q b∨w.heap.size≤b)∧b < w'.heap.size)∧
   w'.ownsRow w.heap.size e sz v is.length xs∧aL ⟨fun _=>undef,fun _=>0,Q',fun _=>none⟩ 0 w' sz (is.map .imm) xs∧∀b,base v=some b→¬Q' b∧b < w'.heap.size
theorem oQ {k k':K} {n n' sz:Nat} {w:World} (hQ:k'.Q=k.Q):∀{is:List IV} {xs:List Value},aL k n w sz (is.map .imm) xs→aL k' n' w sz (is.map .imm) xs
 |[],xs,h=>by simp only[List.map_nil]at h ⊢;unfold aL at h ⊢;exact h
 |i::is,xs,h=>by
  simp only[List.map_cons]at h ⊢
  unfold aL at h ⊢
  obtain⟨v,r,h1,h2,h3,h4,h5⟩:=h
  refine⟨v,r,h1,h2,h3,?_,oQ hQ h5⟩
  rw[aB]at h4 ⊢
  rw[hQ]
  exact h4
theorem Cy {w:World} {N M:Nat} {e:TypeId} {sz n:Nat} {v:Value} {xs:List Value} (h:w.ownsRow N e sz v n xs) (hM:M≤N):w.ownsRow M e sz v n xs:=by
 refine⟨h.1,?_⟩
 rcases h.2 with h|⟨g,cap,cur,h1,h2,h3⟩
 ·exact Or.inl h
 ·exact Or.inr ⟨g,cap,cur,h1,Nat.le_trans hM h2,h3⟩
theorem LB {Γ:Ctx} {k:K} {B:List Blk} {w:World} (hI:Inv Γ k B w) {id g sz:Nat} {e:TypeId} {v:Value} {is:List IV} {xs:List Value} (hid:B[id]?=some (.dead g)) (hown:w.ownsRow Γ.N e sz v is.length xs) (hE:aL k B.length w sz (is.map .imm) xs)
  (hb:∀b,base v=some b→¬k.Q b∧b < w.heap.size∧¬kept Γ k b∧∀r x,B[r]?=some x→own k r x≠some b) :
  ∃k',Ext k B.length w k' B.length w∧Inv Γ k' (B.set id (.row e sz (g+1) (is.map .imm))) w∧Rep k' B.length w (.row id (g+1)) v:=by
 have hidl:id < B.length:=(List.getElem?_eq_some_iff.1 hid).1
 have hg:k.G id=g:=hI.blk id _ hid
 have he:Ext k B.length w (k.put id v (g+1)) B.length w:=by
  refine⟨Nat.le_refl _,fun b hb=>⟨hb,rfl⟩,fun r _=>?_⟩
  by_cases hr:r=id
  ·subst hr
   rw[K.bP,hg]
   exact⟨by omega,fun e=>by omega⟩
  ·rw[K.Br k v _ hr,K.eZ k v _ hr]
   exact⟨Nat.le_refl _,fun _=>rfl⟩
 have hset:∀r z,(B.set id (Blk.row e sz (g+1) (is.map .imm)))[r]?=some z→(r=id∧z=.row e sz (g+1) (is.map .imm))∨(r≠id∧B[r]?=some z):=fun r z hz=>by
  by_cases hr:r=id
  ·subst hr
   rw[List.getElem?_set_self hidl]at hz
   exact Or.inl ⟨rfl,(Option.some.inj hz).symm⟩
  ·rw[List.getElem?_set_ne (Ne.symm hr)]at hz
   exact Or.inr ⟨hr,hz⟩
 have hN:∀b,base v=some b→Γ.N≤b:=fun b hbv=>by
  rcases hown.2 with ⟨h1,_⟩|⟨b',cap,cur,h1,h2,_⟩
  ·rw[h1]at hbv;cases hbv
  ·rw[h1]at hbv
   simp only[base,Option.some.injEq]at hbv
   omega
 have hnew:∀b,own (k.put id v (g+1)) id (Blk.row e sz (g+1) (is.map .imm))=some b→base v=some b:=fun b h=>by simpa[own,K.bL]using h
 have hlen:(B.set id (Blk.row e sz (g+1) (is.map .imm))).length=B.length:=List.length_set
 refine⟨k.put id v (g+1),he,⟨hI.below,hI.lt,hI.le,hI.qs,hI.rr,fun gg cs hc=>bQ (k:=k) (n:=B.length) rfl (hI.gl gg cs hc),fun r z hz=>?_,fun r z b hz hb'=>?_,fun r r' z z' b hz hz' h1 h2=>?_,⟨hI.kp.fr,by rw[hlen];exact hI.kp.ext.trans he⟩,fun r z b hz hb'=>?_,hI.hn⟩,?_⟩
 ·rw[hlen]
  rcases hset r z hz with ⟨h1,h2⟩|⟨h1,h2⟩
  ·subst h1;subst h2
   exact⟨K.bP _ _ _ _,xs,by rw[K.bL,List.length_map];exact hown,oQ (k:=k) (k':=k.put _ v (g+1)) (n:=B.length) rfl hE⟩
  ·exact dG (hI.blk r z h2) he (K.eZ k v _ h1) (K.Br k v _ h1) (fun _ _=>rfl)
 ·rcases hset r z hz with ⟨h1,h2⟩|⟨h1,h2⟩
  ·subst h1;subst h2
   have hbv:=hnew b hb'
   obtain⟨g1,g2,_⟩:=hb b hbv
   exact⟨g1,hN b hbv,g2⟩
  ·rw[fG (K.eZ k v _ h1)]at hb'
   exact hI.sep r z b h2 hb'
 ·rcases hset r z hz with ⟨e1,e2⟩|⟨e1,e2⟩<;>rcases hset r' z' hz' with ⟨f1,f2⟩|⟨f1,f2⟩
  ·rw[e1,f1]
  ·subst e1;subst e2
   rw[fG (K.eZ k v _ f1)]at h2
   exact absurd h2 ((hb b (hnew b h1)).2.2.2 r' z' f2)
  ·subst f1;subst f2
   rw[fG (K.eZ k v _ e1)]at h1
   exact absurd h1 ((hb b (hnew b h2)).2.2.2 r z e2)
  ·rw[fG (K.eZ k v _ e1)]at h1
   rw[fG (K.eZ k v _ f1)]at h2
   exact hI.inj r r' z z' b e2 f2 h1 h2
 ·rcases hset r z hz with ⟨h1,h2⟩|⟨h1,h2⟩
  ·subst h1;subst h2
   exact (hb b (hnew b hb')).2.2.1
  ·rw[fG (K.eZ k v _ h1)]at hb'
   exact hI.nf r z b h2 hb'
 ·unfold Rep
  refine⟨?_,hidl,by rw[K.bP];exact Nat.le_refl _,fun _=>by rw[K.bL]⟩
  obtain⟨ad,c,hf⟩:=dR hown
  rw[hf]
  rfl
end Go.Pv
namespace Go.Pv
open Go.RowKit (Below)
inductive Fork (P:Prop) (X:P→Prop) (Y:¬P→Prop):Prop
 |mk:(∀h,X h)→(∀h,Y h)→Fork P X Y
inductive Owe (P:Prop) (X:Prop):Prop
 |mk:P→X→Owe P X
inductive Idx (i:Int) (es:List IV) (K:List IV→Prop):Prop
 |mk (n:Nat) (e:IV) (cs:List IV):i=n→es[n]?=some e→jD e=cs→K cs→Idx i es K
inductive Pos (i:Int) (es:List PV) (K:Nat→Prop):Prop
 |mk (n:Nat):i=n→n < es.length→K n→Pos i es K
inductive At (n:Nat) (es:List PV) (K:PV→Prop):Prop
 |mk (p:PV):es[n]?=some p→K p→At n es K
inductive gD (ps:List (IV×IV)) (a z:IV) (K:IV→Bool→Prop):Prop
 |mk (v:IV) (b:Bool):(fB ps a).getD z=v→(fB ps a).isSome=b→K v b→gD ps a z K
inductive ah (C:List IV→Prop) (R:TypeId→Nat→List IV→Prop) (K:List IV→Prop) (KR:TypeId→Nat→List IV→Prop):Prop
 |mk (is:List IV):C is→(∀js,js=is→K js)→ah C R K KR
 |row (e:TypeId) (sz:Nat) (is:List IV):R e sz is→(∀js,js=is→KR e sz js)→ah C R K KR
inductive bN (es:List PV) (K:List IV→Prop):Prop
 |mk (is:List IV):es=is.map .imm→K is→bN es K
def PCw (P:Program) (X:Env) (f:FuncId) (args res:List IV):Prop:=∃args',aA args args'∧PC P X f args' res
theorem PCw.of {P:Program} {X:Env} {f:FuncId} {args res:List IV} (h:PC P X f args res):PCw P X f args res:=⟨args,aA.refl _,h⟩
theorem aA.jf {Q:Nat→Prop} {w:World}:∀{is js:List IV} {vs:List Value},aA is js→aV Q w is vs→aV Q w js vs:=fun h=>h.rep
theorem PCw.pc {P:Program} {X:Env} {f:FuncId} {args res:List IV} (h:PCw P X f args res):PC P X f args res:=by
 obtain⟨args',hl,h1,h2⟩:=h
 exact⟨h1,fun Q w vs hQ hg hR hr=>h2 Q w vs hQ hg hR (hl.rep hr)⟩
def GD (k:IntKind) (x:Int) (K:Int→Prop):Prop:=
 match k with
 |.i64=>∀z,(-9223372036854775808≤x∧x≤9223372036854775807→z=x)→K z
 |k=>∀z,z=k.wrap x→K z
structure Tb where
 td:TypeId→Option TD
 eq:TypeId→Option (List CK)
 gl:Nat→Option (List IV)
 fr:Nat→List Nat
 hk:Nat→Bool
 nw:FuncId→Nat:=fun _=>0
def Sk (op:BinOp) (k:IntKind) (a b:Int) (K:IV→Prop):Prop:=
 match op with
 |.add=>GD k (a+b) fun z=>K (.int k z)
 |.sub=>GD k (a - b) fun z=>K (.int k z)
 |.mul=>GD k (a*b) fun z=>K (.int k z)
 |.eql=>Fork (a=b) (fun _=>K (.bool true)) (fun _=>K (.bool false))
 |.neq=>Fork (a=b) (fun _=>K (.bool false)) (fun _=>K (.bool true))
 |.lss=>Fork (a < b) (fun _=>K (.bool true)) (fun _=>K (.bool false))
 |.leq=>Fork (a≤b) (fun _=>K (.bool true)) (fun _=>K (.bool false))
 |.gtr=>Fork (b < a) (fun _=>K (.bool true)) (fun _=>K (.bool false))
 |.geq=>Fork (b≤a) (fun _=>K (.bool true)) (fun _=>K (.bool false))
 |.quo=>Owe (b≠0) <| GD k (a.tdiv b) fun z=>K (.int k z)
 |.rem=>Owe (b≠0) <| ∀z,z=a.tmod b→K (.int k z)
 |.and=>∀z,z=k.wrap (BitVec.ofInt k.bits a &&& BitVec.ofInt k.bits b).toNat→K (.int k z)
 |.or=>∀z,z=k.wrap (BitVec.ofInt k.bits a ||| BitVec.ofInt k.bits b).toNat→K (.int k z)
 |.xor=>∀z,z=k.wrap (BitVec.ofInt k.bits a ^^^ BitVec.ofInt k.bits b).toNat→K (.int k z)
 |_=>False
def Ib (op:BinOp) (k:IntKind) (a b:Int) (K:IV→Prop):Prop:=
 match op with
 |.shl=>Owe (0≤b) <| ∀z,z=k.wrap (a*2 ^ (min b.toNat k.bits))→K (.int k z)
 |.shr=>Owe (0≤b) <| ∀z,z=a.fdiv (2 ^ (min b.toNat k.bits))→K (.int k z)
 |_=>False
inductive Bytes (es:List PV) (K:List UInt8→Prop):Prop
 |mk (bs:List UInt8):es=bs.map (fun b=>PV.imm (.int .u8 (b.toNat:Int)))→K bs→Bytes es K
def SF (op:BinOp) (a b:ByteArray) (K:IV→Prop):Prop:=
 match op with
 |.add=>Owe (a.size+b.size≤most) <| ∀s,s=a++b→K (.str s)
 |.eql=>Fork (a=b) (fun _=>K (.bool true)) (fun _=>K (.bool false))
 |.neq=>Fork (a=b) (fun _=>K (.bool false)) (fun _=>K (.bool true))
 |.lss=>Fork (gY a b=true) (fun _=>K (.bool true)) (fun _=>K (.bool false))
 |.leq=>Fork (gY a b=true∨a=b) (fun _=>K (.bool true)) (fun _=>K (.bool false))
 |.gtr=>Fork (gY a b=true∨a=b) (fun _=>K (.bool false)) (fun _=>K (.bool true))
 |.geq=>Fork (gY a b=true) (fun _=>K (.bool false)) (fun _=>K (.bool true))
 |_=>False
def Mh (op:BinOp) (a b:Bool) (K:IV→Prop):Prop:=
 match op with
 |.eql=>Fork (a=b) (fun _=>K (.bool true)) (fun _=>K (.bool false))
 |.neq=>Fork (a=b) (fun _=>K (.bool false)) (fun _=>K (.bool true))
 |_=>False
def MU (op:BinOp) (is js:List IV) (K:IV→Prop):Prop:=
 match op with
 |.eql=>Fork (eqC is js=true) (fun _=>K (.bool true)) (fun _=>K (.bool false))
 |.neq=>Fork (eqC is js=true) (fun _=>K (.bool false)) (fun _=>K (.bool true))
 |_=>False
def evT (T:Tb) (E:List PV):Operand→PV
 |.tmp t=>E.getD t .any
 |.const v=>Ik v
 |.global g=>match T.gl g with
  |some cs=>.iptr cs
  |none=>.any
 |.func f=>.imm (.fn f)
inductive wW (get:Nat→Option Blk) (rd:List Nat):List PV→List IV→List (Nat×Blk)→Prop
 |nil:wW get rd [] [] []
 |imm {i:IV} {es:List PV} {is:List IV} {ws:List (Nat×Blk)}:wW get rd es is ws→wW get rd (.imm i::es) (i::is) ws
 |row {q sz g:Nat} {e:TypeId} {js:List IV} {es:List PV} {is:List IV} {ws:List (Nat×Blk)}:get q=some (.row e sz g (js.map .imm))→rd.contains q=true→bK ws q=false→wW get rd es is ws→wW get rd (.row q g::es) (.sl sz js::is) ((q,.dead g)::ws)
inductive Rl (get:Nat→Option Blk) (rd:List Nat) (q:Nat) (es:List PV) (K:List IV→List (Nat×Blk)→Prop):Prop
 |mk (is:List IV) (ws:List (Nat×Blk)):wW get rd es is ws→bK ws q=false→rd.contains q=true→K is ws→Rl get rd q es K
def kE (nest:Bool) (get:Nat→Option Blk) (rd:List Nat):List PV→(List IV→List (Nat×Blk)→Prop)→Prop
 |[],K=>K [] []
 |.imm i::r,K=>kE nest get rd r fun is ws=>K (i::is) ws
 |.row q g::r,K=>match get q with
  |some (.row _ sz g' es)=>if g=g' then (match nest with
   |false=>bN es fun is=>kE nest get rd r fun js ws=>(match bK ws q,rd.contains q with
    |false,true=>K (.sl sz is::js) ((q,.dead g)::ws)
    |_,_=>False)
   |true=>match r with
    |[]=>Rl get rd q es fun is ws=>K [.sl sz is] ((q,.dead g)::ws)
    |_::_=>False) else False
  |_=>False
 |_::_,_=>False
inductive CBk
 |box (g:Nat) (cs:List PV) (t:Option TypeId:=none)
 |row (e:TypeId) (sz g:Nat) (is:List IV)
 |dead (g:Nat)
 |map (kk:MK) (g:Nat) (ps:List (IV×IV))
 |nest (e:TypeId) (sz g:Nat) (es:List PV)
 deriving Inhabited
def CBk.blk:CBk→Blk
 |.dead g=>.dead g
 |.box g cs t=>.box g cs t
 |.row e sz g is=>.row e sz g (is.map .imm)
 |.map kk g ps=>.map kk g ps
 |.nest e sz g es=>.row e sz g es
def CBk.gen:CBk→Nat
 |.dead g=>g
 |.box g _ _=>g
 |.row _ _ g _=>g
 |.map _ g _=>g
 |.nest _ _ g _=>g
def qK:List CBk→Nat→Nat
 |[],_=>0
 |b::_,0=>b.gen
 |_::l,i+1=>qK l i
def uO (n:Nat) (G:Nat→Nat):List CBk→Bool
 |[]=>true
 |.box _ cs _::l=>dY n G cs&&uO n G l
 |.row _ _ _ _::l=>uO n G l
 |.dead _::l=>uO n G l
 |.map kk _ _::l=>!xS kk&&uO n G l
 |.nest _ _ _ es::l=>dY n G es&&uO n G l
def nodupB:List Nat→Bool
 |[]=>true
 |r::l=>!l.contains r&&nodupB l
abbrev CT:=(FuncId→List IV→List IV→Prop)×(FuncId→List PV→List CBk→List PV→List CBk→Prop)×(FuncId→List IV→TypeId→Nat→List IV→Prop)
def fnP:PV→Option (FuncId×List PV)
 |.imm (.fn f)=>some (f,[])
 |.clo f cs=>some (f,cs)
 |_=>none
def GL:List PV→Bool
 |[]=>true
 |.imm _::l=>GL l
 |.row _ _::l=>GL l
 |_::_=>false
def Ou (n:Nat):Bool:=Nat.beq n 77
def Ro:Nat→List PV→Bool
 |0,l=>GL l
 |_+1,_=>false
mutual
def down (get:Nat→Option Blk) (rs:List Nat):PV→Option PV
 |.any=>some .any
 |.imm i=>some (.imm i)
 |.agg cs=>match tO get rs cs with
  |some qs=>some (.agg qs)
  |none=>none
 |.tup _=>none
 |.ptr r g o=>match get r,idxOf r rs 0 with
  |some b,some i=>if gen b=g then some (.ptr i 1 o) else none
  |_,_=>none
 |.row r g=>match get r,idxOf r rs 0 with
  |some b,some i=>if gen b=g then some (.row i 1) else none
  |_,_=>none
 |.eptr r g sz j o=>match get r,idxOf r rs 0 with
  |some b,some i=>if gen b=g then some (.eptr i 1 sz j o) else none
  |_,_=>none
 |.sub r g sz j o=>match get r,idxOf r rs 0 with
  |some b,some i=>if gen b=g then some (.sub i 1 sz j o) else none
  |_,_=>none
 |.iptr cs=>some (.iptr cs)
 |.ful a b=>some (.ful a b)
 |.clo f cs=>match tO get rs cs with
  |some qs=>some (.clo f qs)
  |none=>none
def tO (get:Nat→Option Blk) (rs:List Nat):List PV→Option (List PV)
 |[]=>some []
 |c::cs=>match down get rs c,tO get rs cs with
  |some q,some qs=>some (q::qs)
  |_,_=>none
end
def wm (get:Nat→Option Blk) (rs:List Nat):List Nat→(List CBk→Prop)→Prop
 |[],K=>K []
 |r::l,K=>match get r with
  |some (.box _ cs t)=>(match tO get rs cs with
   |some qs=>wm get rs l fun Bs=>K (.box 1 qs t::Bs)
   |none=>False)
  |some (.row e sz _ es)=>bN es fun is=>wm get rs l fun Bs=>K (.row e sz 1 is::Bs)
  |some (.dead _)=>wm get rs l fun Bs=>K (.dead 1::Bs)
  |some (.map kk _ ps)=>(match xS kk with
   |false=>wm get rs l fun Bs=>K (.map kk 1 ps::Bs)
   |true=>False)
  |none=>False
inductive bV (C:List PV→List CBk→Prop) (K:List PV→List CBk→Prop):Prop
 |mk (res:List PV) (Bs:List CBk):C res Bs→K res Bs→bV C K
def iV (get:Nat→Option Blk) (rd:List Nat) (i:Nat):Nat:=match get (rd.getD i 0) with
 |some b=>gen b
 |none=>0
def LV (get:Nat→Option Blk) (rd:List Nat) (Bs:List CBk) (i:Nat):Nat:=match Nat.decEq (qK Bs i) 1 with
 |isTrue _=>iV get rd i
 |isFalse _=>iV get rd i+1
def upC (f g:Nat→Nat) (G:Nat):CBk→Blk
 |.dead _=>.dead G
 |.box _ cs t=>.box G (upL f g cs) t
 |.row e sz _ is=>.row e sz G (is.map .imm)
 |.map kk _ ps=>.map kk G ps
 |.nest e sz _ es=>.row e sz G (upL f g es)
def E5 (f g:Nat→Nat):Nat→List CBk→List (Nat×Blk)
 |_,[]=>[]
 |i,b::l=>(f i,upC f g (g i) b)::E5 f g (i+1) l
def je (n:Nat) (K:Nat→Prop):Prop:=match Nat.decEq n 0 with
 |isTrue _=>K 0
 |isFalse _=>match Nat.decEq n 1 with
 |isTrue _=>K 1
 |isFalse _=>match Nat.decEq n 2 with
 |isTrue _=>K 2
 |isFalse _=>match Nat.decEq n 3 with
 |isTrue _=>K 3
 |isFalse _=>match Nat.decEq n 4 with
 |isTrue _=>K 4
 |isFalse _=>match Nat.decEq n 5 with
 |isTrue _=>K 5
 |isFalse _=>match Nat.decEq n 6 with
 |isTrue _=>K 6
 |isFalse _=>match Nat.decEq n 7 with
 |isTrue _=>K 7
 |isFalse _=>match Nat.decEq n 8 with
 |isTrue _=>K 8
 |isFalse _=>match Nat.decEq n 9 with
 |isTrue _=>K 9
 |isFalse _=>match Nat.decEq n 10 with
 |isTrue _=>K 10
 |isFalse _=>match Nat.decEq n 11 with
 |isTrue _=>K 11
 |isFalse _=>match Nat.decEq n 12 with
 |isTrue _=>K 12
 |isFalse _=>match Nat.decEq n 13 with
 |isTrue _=>K 13
 |isFalse _=>match Nat.decEq n 14 with
 |isTrue _=>K 14
 |isFalse _=>match Nat.decEq n 15 with
 |isTrue _=>K 15
 |isFalse _=>match Nat.decEq n 16 with
 |isTrue _=>K 16
 |isFalse _=>match Nat.decEq n 17 with
 |isTrue _=>K 17
 |isFalse _=>match Nat.decEq n 18 with
 |isTrue _=>K 18
 |isFalse _=>match Nat.decEq n 19 with
 |isTrue _=>K 19
 |isFalse _=>match Nat.decEq n 20 with
 |isTrue _=>K 20
 |isFalse _=>match Nat.decEq n 21 with
 |isTrue _=>K 21
 |isFalse _=>match Nat.decEq n 22 with
 |isTrue _=>K 22
 |isFalse _=>match Nat.decEq n 23 with
 |isTrue _=>K 23
 |isFalse _=>match Nat.decEq n 76 with
 |isTrue _=>K 76
 |isFalse _=>match Nat.decEq n 77 with
 |isTrue _=>K 77
 |isFalse _=>match Nat.decEq n 78 with
 |isTrue _=>K 78
 |isFalse _=>match Nat.decEq n 79 with
 |isTrue _=>K 79
 |isFalse _=>match Nat.decEq n 80 with
 |isTrue _=>K 80
 |isFalse _=>match Nat.decEq n 81 with
 |isTrue _=>K 81
 |isFalse _=>match Nat.decEq n 82 with
 |isTrue _=>K 82
 |isFalse _=>K n
theorem dw (n:Nat) (K:Nat→Prop):je n K=K n:=by
 unfold je
 repeat (split;(rename_i h _;subst h;rfl))
 rfl
mutual
def fM:PV→(PV→Prop)→Prop
 |.any,K=>K .any
 |.imm i,K=>K (.imm i)
 |.agg cs,K=>bC cs fun cs=>K (.agg cs)
 |.tup cs,K=>bC cs fun cs=>K (.tup cs)
 |.ptr r g o,K=>je r fun r=>je g fun g=>je o fun o=>K (.ptr r g o)
 |.row r g,K=>je r fun r=>je g fun g=>K (.row r g)
 |.eptr r g a b c,K=>je r fun r=>je g fun g=>K (.eptr r g a b c)
 |.sub r g a b c,K=>je r fun r=>je g fun g=>K (.sub r g a b c)
 |.iptr cs,K=>K (.iptr cs)
 |.ful a b,K=>K (.ful a b)
 |.clo f cs,K=>bC cs fun cs=>K (.clo f cs)
def bC:List PV→(List PV→Prop)→Prop
 |[],K=>K []
 |c::cs,K=>fM c fun c=>bC cs fun cs=>K (c::cs)
end
mutual
theorem tC:∀(p:PV) (K:PV→Prop),fM p K=K p
 |.any,K=>by unfold fM;rfl
 |.imm i,K=>by unfold fM;rfl
 |.agg cs,K=>by unfold fM;rw[cZ]
 |.tup cs,K=>by unfold fM;rw[cZ]
 |.ptr r g o,K=>by unfold fM;rw[dw,dw,dw]
 |.row r g,K=>by unfold fM;rw[dw,dw]
 |.eptr r g a b c,K=>by unfold fM;rw[dw,dw]
 |.sub r g a b c,K=>by unfold fM;rw[dw,dw]
 |.iptr cs,K=>by unfold fM;rfl
 |.ful a b,K=>by unfold fM;rfl
 |.clo f cs,K=>by unfold fM;rw[cZ]
theorem cZ:∀(l:List PV) (K:List PV→Prop),bC l K=K l
 |[],K=>by unfold bC;rfl
 |c::cs,K=>by unfold bC;rw[tC,cZ]
end
def Rb (T:Tb) (id:Nat) (get:Nat→Option Blk) (e:TypeId) (sz bytes:Nat) (ts:Array TypeId) (s x:PV) (K:PV→List (Nat×Blk)→Prop):Prop:=
 match T.td e,T.td (ts.getD 1 0),x with
 |some d,some ⟨_,_,_,.str⟩,.imm (.str b)=>if u8B d=true∧sz=1∧bytes=1∧ts.size=2 then (match s with
  |.imm .nil=>match get id with
   |some (.dead g)=>Owe (b.size≤most) <| ∀es,es=EY b→K (.row id (g+1)) [(id,.row e 1 (g+1) es)]
   |_=>False
  |.row r g=>match get r with
   |some (.row e' sz' g' es)=>if g=g'∧e=e'∧sz'=1 then Owe (es.length+b.size≤most) <| ∀es',es'=es++EY b→K (.row r (g+1)) [(r,.row e 1 (g+1) es')] else False
   |_=>False
  |_=>False) else False
 |_,_,_=>False
def aN (T:Tb) (C:CT) (op:Op) (id:Nat) (ev:Operand→PV) (get:Nat→Option Blk) (rd:List Nat) (K:PV→List (Nat×Blk)→Prop):Prop:=
 match op with
 |.move x|.assign x=>K (ev x) []
 |.pick c a b=>match ev c with
  |.imm (.bool t)=>(match t with
   |true=>K (ev a) []
   |false=>K (ev b) [])
  |_=>False
 |.alloc t=>match T.td t,get id with
  |some d,some (.dead g)=>(match Ra d.kind with
   |some n=>if n=d.zero.length∧0 < n∧n≤most then K (.eptr id (g+1) 1 0 0) [(id,.row t 1 (g+1) (d.zero.map .imm))] else False
   |none=>K (.ptr id (g+1) 0) [(id,.box (g+1) (d.zero.map .imm) (Sg t d))])
  |_,_=>False
 |.box _ x=>match bZ (ev x),get id with
  |some cs,some (.dead g)=>K (.ptr id (g+1) 0) [(id,.box (g+1) cs)]
  |_,_=>False
 |.load t x=>match T.td t,ev x with
  |some d,.ptr r g off=>match get r with
   |some (.box g' cs _)=>if g=g' then (match kg cs off d.size d.agg with
    |some p=>K p []
    |none=>False) else False
   |_=>False
  |some d,.eptr r g sz i off=>match get r with
   |some (.row _ sz' g' es)=>if g=g'∧sz=sz' then At i es fun p=>(match bZ p with
     |some cs=>(match kg cs off d.size d.agg with
      |some p=>K p []
      |none=>False)
     |none=>False) else False
   |_=>False
  |some d,.iptr cs=>match qR cs 0 d.size d.agg with
   |some i=>K (.imm i) []
   |none=>False
  |_,_=>False
 |.store t x y=>match T.td t,ev x,bZ (ev y) with
  |some d,.ptr r g off,some ys=>match get r with
   |some (.box g' cs t')=>if g=g'∧ys.length=d.size∧off+d.size≤cs.length then K .any [(r,.box g (cs.take off++ys++cs.drop (off+d.size)) t')] else False
   |_=>False
  |some d,.eptr r g sz i off,some ys=>match get r with
   |some (.row e sz' g' es)=>if g=g'∧sz=sz'∧ys.length=d.size then At i es fun p=>(match bZ p with
     |some cs=>if off+d.size≤cs.length then ∀es',es'=es.set i (zR p (cs.take off++ys++cs.drop (off+d.size)))→K .any [(r,.row e sz g es')] else False
     |none=>False) else False
   |_=>False
  |_,_,_=>False
 |.nilCheck x=>match ev x with
  |.ptr r g off=>match get r with
   |some (.box g' _ _)=>if g=g' then K (.ptr r g off) [] else False
   |_=>False
  |.iptr cs=>K (.iptr cs) []
  |.clo f cs=>K (.clo f cs) []
  |.imm (.fn f)=>K (.imm (.fn f)) []
  |_=>False
 |.binOp op t x y _=>match ev x,ev y with
  |.imm (.int k a),.imm (.int k' b)=>(match Jj op with
   |true=>Ib op k a b fun i=>K (.imm i) []
   |false=>if k=k' then Sk op k a b fun i=>K (.imm i) [] else False)
  |.imm (.str a),.imm (.str b)=>SF op a b fun i=>K (.imm i) []
  |.imm (.bool a),.imm (.bool b)=>(match T.td t with
   |some ⟨_,_,_,.bool⟩=>Mh op a b fun i=>K (.imm i) []
   |_=>False)
  |.imm (.agg is),.imm (.agg js)=>(match T.eq t with
   |some ks=>if aG is ks∧aG js ks then MU op is js fun i=>K (.imm i) [] else False
   |none=>False)
  |.ptr r g _,.imm .np=>(match T.td t,get r with
   |some ⟨_,_,_,.ptr _⟩,some (.box g' _ _)=>if g=g' then (match op with
    |.eql=>K (.imm (.bool false)) []
    |.neq=>K (.imm (.bool true)) []
    |_=>False) else False
   |_,_=>False)
  |.imm .np,.imm .np=>(match T.td t with
   |some ⟨_,_,_,.ptr _⟩=>(match op with
    |.eql=>K (.imm (.bool true)) []
    |.neq=>K (.imm (.bool false)) []
    |_=>False)
   |_=>False)
  |.clo _ _,.imm .nf=>(match T.td t with
   |some ⟨_,_,_,.fn⟩=>(match op with
    |.eql=>K (.imm (.bool false)) []
    |.neq=>K (.imm (.bool true)) []
    |_=>False)
   |_=>False)
  |.imm (.fn _),.imm .nf=>(match T.td t with
   |some ⟨_,_,_,.fn⟩=>(match op with
    |.eql=>K (.imm (.bool false)) []
    |.neq=>K (.imm (.bool true)) []
    |_=>False)
   |_=>False)
  |.imm .nf,.imm .nf=>(match T.td t with
   |some ⟨_,_,_,.fn⟩=>(match op with
    |.eql=>K (.imm (.bool true)) []
    |.neq=>K (.imm (.bool false)) []
    |_=>False)
   |_=>False)
  |_,_=>False
 |.unOp op _ x=>match op,ev x with
  |.not,.imm (.bool b)=>(match b with
   |true=>K (.imm (.bool false)) []
   |false=>K (.imm (.bool true)) [])
  |.neg,.imm (.int k a)=>GD k (0 - a) fun z=>K (.imm (.int k z)) []
  |_,_=>False
 |.fieldAddr s x f=>match T.td s,ev x with
  |some ⟨_,_,_,.struct fs⟩,.ptr r g off=>match fs[f]? with
   |some (fo,fz,_)=>match get r with
    |some (.box g' _ _)=>if fz≠0∧g=g' then K (.ptr r g (off+fo)) [] else False
    |_=>False
   |none=>False
  |some ⟨_,_,_,.struct fs⟩,.eptr r g sz i off=>match fs[f]? with
   |some (fo,fz,_)=>match get r with
    |some (.row _ _ g' _)=>if fz≠0∧g=g' then K (.eptr r g sz i (off+fo)) [] else False
    |_=>False
   |none=>False
  |some ⟨_,_,_,.struct fs⟩,.iptr cs=>match fs[f]? with
   |some (fo,fz,_)=>if fz=0 then False else K (.iptr (cs.drop fo)) []
   |none=>False
  |_,_=>False
 |.field t x f=>match T.td t,ev x with
  |some ⟨_,_,_,.struct fs⟩,.imm (.agg cs)=>match fs[f]? with
   |some (fo,fz,fa)=>match qR cs fo fz fa with
    |some i=>K (.imm i) []
    |none=>False
   |none=>False
  |some ⟨_,_,_,.struct fs⟩,.agg ps=>match fs[f]? with
   |some (fo,_,false)=>(match ps[fo]? with
    |some p=>K p []
    |none=>False)
   |_=>False
  |_,_=>False
 |.indexAddr t x ix=>match T.td t,ev x,ev ix with
  |some ⟨_,_,_,.slice _ sz _⟩,.imm (.sl sz' es),.imm (.int _ i)=>if sz=sz' then Idx i es fun cs=>K (.iptr cs) [] else False
  |some ⟨_,_,_,.slice _ sz _⟩,.row r g,.imm (.int _ i)=>match get r with
   |some (.row _ sz' g' es)=>if g=g'∧sz=sz' then Pos i es fun n=>K (.eptr r g sz n 0) [] else False
   |_=>False
  |some ⟨_,_,_,.slice _ sz _⟩,.sub r g sz' q m,.imm (.int _ i)=>match get r with
   |some (.row _ sz2 g' _)=>if g=g'∧sz=sz'∧sz=sz2 then Owe (0≤i∧i < (m:Int)) <| ∀j,j=q+i.toNat→K (.eptr r g sz j 0) [] else False
   |_=>False
  |some ⟨_,_,_,.arr n _ sz⟩,.eptr r g sz' i0 o,.imm (.int _ i)=>match get r with
   |some (.row _ sz2 g' es)=>if g=g'∧sz=sz'∧sz=sz2∧i0=0∧o=0 then Owe (n=es.length) <| Pos i es fun j=>K (.eptr r g sz j 0) [] else False
   |_=>False
  |some ⟨_,_,_,.arr n _ sz⟩,.iptr cs,.imm (.int _ i)=>Owe (0≤i∧i < (n:Int)) <| ∀cs',cs'=cs.drop (i.toNat*sz)→K (.iptr cs') []
  |_,_,_=>False
 |.index t x ix=>match T.td t,ev x,ev ix with
  |some ⟨_,_,_,.str⟩,.imm (.str s),.imm (.int _ i)=>Owe (0≤i∧i < s.size) <| ∀c z,s.data[i.toNat]?=some c→z=((c.toNat:Nat):Int)→K (.imm (.int .u8 z)) []
  |_,_,_=>False
 |.build t parts=>match T.td t with
  |some ⟨_,_,zs,.struct fs⟩=>match xP fs (zs.map .imm) (parts.toList.map fun x=>(x.1,ev x.2)) with
   |some cs=>K (norm (.agg cs)) []
   |none=>False
  |_=>False
 |.buildSlice t n parts=>match T.td t,get id,su 0 (parts.toList.map fun x=>(x.1,ev x.2)) with
  |some ⟨_,_,_,.slice e sz _⟩,some (.dead g),some ps=>bC ps fun ps=>if n=ps.length∧(T.td e).isSome=true∧0 < sz∧n*sz≤16000000∧vQ sz ps then K (.row id (g+1)) [(id,.row e sz (g+1) ps)] else False
  |_,_,_=>False
 |.slice t x lo hi none=>match T.td t,ev x,bound ev lo 0 with
  |some ⟨_,_,_,.str⟩,.imm (.str s),some l=>(match hi with
   |none=>Owe (0≤l∧l≤s.size) <| ∀u,u=s.extract l.toNat s.size→K (.imm (.str u)) []
   |some y=>match ev y with
    |.imm (.int _ h)=>Owe (0≤l∧l≤h∧h≤s.size) <| ∀u,u=s.extract l.toNat h.toNat→K (.imm (.str u)) []
    |_=>False)
  |some ⟨_,_,_,.slice _ sz _⟩,.imm (.sl sz' es),some l=>if sz=sz' then (match hi with
   |none=>Owe (0≤l∧l≤es.length) <| ∀u,u=es.drop l.toNat→K (.imm (.sl sz u)) []
   |some y=>match ev y with
    |.imm (.int _ h)=>Owe (0≤l∧l≤h∧h≤es.length) <| ∀u,u=(es.drop l.toNat).take (h.toNat - l.toNat)→K (.imm (.sl sz u)) []
    |_=>False) else False
  |some ⟨_,_,_,.slice _ sz _⟩,.row r g,some l=>(match get r with
   |some (.row e sz' g' es)=>(match lo with
    |some _=>if g=g'∧sz=sz' then (match hi with
     |none=>Owe (0≤l∧l≤es.length) <| ∀a,a=l.toNat→∀b,b=es.length - l.toNat→K (.sub r g sz a b) []
     |some y=>(match ev y with
      |.imm (.int _ h)=>Owe (0≤l∧l≤h∧h≤es.length) <| ∀a,a=l.toNat→∀b,b=h.toNat - l.toNat→K (.sub r g sz a b) []
      |_=>False)) else False
    |none=>if g=g'∧sz=sz'∧l=0 then (match hi with
     |some y=>(match ev y with
      |.imm (.int _ h)=>Owe (0≤h∧h≤es.length) <| ∀es',es'=es.take h.toNat→K (.row r (g+1)) [(r,.row e sz (g+1) es')]
      |_=>False)
     |none=>False) else False)
   |_=>False)
  |some ⟨_,_,_,.slice _ sz _⟩,.sub r g sz' q m,some l=>(match get r with
   |some (.row _ sz2 g' _)=>if g=g'∧sz=sz'∧sz=sz2 then (match hi with
    |none=>Owe (0≤l∧l≤(m:Int)) <| ∀a,a=q+l.toNat→∀b,b=m - l.toNat→K (.sub r g sz a b) []
    |some y=>(match ev y with
     |.imm (.int _ h)=>Owe (0≤l∧l≤h∧h≤(m:Int)) <| ∀a,a=q+l.toNat→∀b,b=h.toNat - l.toNat→K (.sub r g sz a b) []
     |_=>False)) else False
   |_=>False)
  |some ⟨_,_,_,.arr n _ sz⟩,.eptr r g sz' i0 o,some l=>(match get r with
   |some (.row _ sz2 g' es)=>(match hi with
    |none=>if g=g'∧sz=sz'∧sz=sz2∧i0=0∧o=0 then Owe (n=es.length∧0≤l∧l≤(n:Int)) <| ∀a,a=l.toNat→∀b,b=n - l.toNat→K (.sub r g sz a b) [] else False
    |some _=>False)
   |_=>False)
  |_,_,_=>False
 |.slice t x lo (some y) (some mx)=>match T.td t,ev x,bound ev lo 0,ev y,ev mx with
  |some ⟨_,_,_,.slice _ sz _⟩,.imm (.sl sz' es),some l,.imm (.int _ h),.imm (.int _ m)=>if sz=sz' then Owe (0≤l∧l≤h∧h=m∧m≤es.length) <| ∀u,u=(es.drop l.toNat).take (h.toNat - l.toNat)→K (.ful sz u) [] else False
  |_,_,_,_,_=>False
 |.call ⟨.builtin .copy,args,ts⟩=>match T.td (ts.getD 0 0),args.toList.map ev with
  |some ⟨_,_,_,.slice e sz _⟩,[.row r g,x]=>(match get r,mG get sz x with
   |some (.row e' sz' g' es),some xs=>if g=g'∧e=e'∧sz=sz'∧0 < sz∧ts.size=2 then Owe (xs.length≤most∧es.length≤most) <| ∀es',es'=xs.take es.length++es.drop xs.length→K (.imm (.int .i64 (min xs.length es.length:Nat))) [(r,.row e sz g es')] else False
   |_,_=>False)
  |some ⟨_,_,_,.slice e sz _⟩,[.sub r g sz2 q m,x]=>(match get r,mG get sz x with
   |some (.row e' sz' g' es),some xs=>if g=g'∧e=e'∧sz=sz'∧sz=sz2∧0 < sz∧ts.size=2 then Owe (xs.length≤m∧m≤most) <| ∀es',es'=es.take q++xs++es.drop (q+xs.length)→∀z,z=((xs.length:Nat):Int)→K (.imm (.int .i64 z)) [(r,.row e sz g es')] else False
   |_,_=>False)
  |_,_=>False
 |.call ⟨.builtin .append,args,ts⟩=>match T.td (ts.getD 0 0),args.toList.map ev with
  |some ⟨_,_,_,.slice e sz bytes⟩,[s,x]=>if (T.td e).isSome=true∧0 < sz∧bytes≤100000∧ts.size=2∧ts.getD 1 0=ts.getD 0 0 then (match s with
   |.imm .nil=>match get id with
    |some (.dead g)=>(match x with
     |.imm .nil=>K (.row id (g+1)) [(id,.row e sz (g+1) [])]
     |.imm (.sl sz' es)=>if sz=sz' then Owe (es.length≤most) <| ∀xs,xs=es.map .imm→K (.row id (g+1)) [(id,.row e sz (g+1) xs)] else False
     |.row r g'=>(match get r with
      |some (.row _ sz' g'' es)=>if g'=g''∧sz=sz' then Owe (es.length≤most) <| K (.row id (g+1)) [(id,.row e sz (g+1) es)] else False
      |_=>False)
     |.sub r g' sz' q m=>(match get r with
      |some (.row _ sz2 g'' es)=>if g'=g''∧sz=sz'∧sz=sz2 then Owe (q+m≤es.length∧m≤most) <| ∀es',es'=(es.drop q).take m→K (.row id (g+1)) [(id,.row e sz (g+1) es')] else False
      |_=>False)
     |_=>False)
    |_=>False
   |.row r g=>match get r with
    |some (.row e' sz' g' es)=>if g=g'∧e=e'∧sz=sz'∧OY r x then (match x with
     |.imm .nil=>Owe (es.length≤most) <| K (.row r (g+1)) [(r,.row e sz (g+1) es)]
     |.imm (.sl sz' xs)=>if sz=sz' then Owe (Room bytes (es.length+xs.length)) <| ∀es',es'=es++xs.map .imm→K (.row r (g+1)) [(r,.row e sz (g+1) es')] else False
     |.row r' g''=>(match get r' with
      |some (.row _ sz'' g3 xs)=>if g''=g3∧sz=sz'' then Owe (Room bytes (es.length+xs.length)) <| ∀es',es'=es++xs→K (.row r (g+1)) [(r,.row e sz (g+1) es')] else False
      |_=>False)
     |.sub r' g'' sz'' q m=>(match get r' with
      |some (.row _ sz2 g3 xs)=>if g''=g3∧sz=sz''∧sz=sz2 then Owe (q+m≤xs.length∧es.length+m≤most) <| ∀es',es'=es++(xs.drop q).take m→K (.row r (g+1)) [(r,.row e sz (g+1) es')] else False
      |_=>False)
     |_=>False) else False
    |_=>False
   |.ful sz' es=>(match get id with
    |some (.dead g)=>if sz=sz' then (match mG get sz x with
     |some xs=>Owe (es.length+xs.length≤most) <| Fork (xs.length=0) (fun _=>∀u,u=es→K (.imm (.sl sz u)) []) (fun _=>∀es',es'=es.map .imm++xs→K (.row id (g+1)) [(id,.row e sz (g+1) es')])
     |none=>False) else False
    |_=>False)
   |_=>False) else Rb T id get e sz bytes ts s x K
  |_,_=>False
 |.extract x i=>match ev x with
  |.tup cs=>match cs[i]? with
   |some p=>K p []
   |none=>False
  |_=>False
 |.makeSlice t l c=>match T.td t,get id,ev l,ev c with
  |some ⟨_,_,_,.slice e sz bytes⟩,some (.dead g),.imm (.int _ z),.imm (.int _ y)=>(match T.td e with
   |some d=>if 0 < sz∧bytes≤100000 then Owe (0≤z∧z≤y∧y≤(most:Int)) <| ∀es,es=List.replicate z.toNat (PV.imm (eu d))→K (.row id (g+1)) [(id,.row e sz (g+1) es)] else False
   |none=>False)
  |_,_,_,_=>False
 |.makeMap t none=>match T.td t,get id with
  |some ⟨_,_,_,.map k _⟩,some (.dead g)=>(match T.td k with
   |some d=>(match pF T.eq k d with
    |some kk=>K (.row id (g+1)) [(id,.map kk (g+1) [])]
    |none=>False)
   |none=>False)
  |_,_=>False
 |.lookup t m x ok=>match T.td t,ev m,ev x with
  |some ⟨_,_,_,.map k e⟩,.row r g,.imm a=>(match get r,T.td k,T.td e with
   |some (.map (.rows k2 _ _ o) g' ps),some dk,some d=>if g=g'∧ok=false∧pF T.eq k dk=some k2∧dH k2 a=true then (match o with
    |none=>Owe (iK ps a=none) <| K (.imm (eu d)) []
    |some (i,j,gj)=>Owe (iK ps a=some i) <| K (.row j gj) []) else False
   |some (.map kk' g' ps),some dk,some d=>if g=g'∧pF T.eq k dk=some kk'∧dH kk' a=true then gD ps a (eu d) fun v b=>(match ok with
    |true=>K (.tup [.imm v,.imm (.bool b)]) []
    |false=>K (.imm v) []) else False
   |_,_,_=>False)
  |some ⟨_,_,_,.map k e⟩,.imm .nm,.imm a=>(match T.td k,T.td e with
   |some dk,some d=>(match pF T.eq k dk with
    |some kk=>if dH kk a=true then (match ok with
     |true=>K (.tup [.imm (eu d),.imm (.bool false)]) []
     |false=>K (.imm (eu d)) []) else False
    |none=>False)
   |_,_=>False)
  |_,_,_=>False
 |.mapUpdate t m x y|.insert t m x y=>match T.td t,ev m,ev x,ev y with
  |some ⟨_,_,_,.map k _⟩,.row r g,.imm a,.imm b=>(match get r,T.td k with
   |some (.map kk' g' ps),some dk=>if g=g'∧pF T.eq k dk=some kk'∧dH kk' a=true then ∀ps',ps'=dS ps a b→K .any [(r,.map kk' g ps')] else False
   |_,_=>False)
  |some ⟨_,_,_,.map k _⟩,.row r g,.imm a,.row j gj=>(match get r,get j,T.td k with
   |some (.map (.rows k2 e sz o) g' ps),some (.row e' sz' gj' es),some dk=>if g=g'∧pF T.eq k dk=some k2∧dH k2 a=true∧e=e'∧sz=sz'∧gj=gj'∧r≠j then (match o with
    |none=>bN es fun is=>Owe (0 < is.length∧iK ps a=none) <| ∀ps',ps'=dS ps a (.sl sz is)→K .any [(r,.map (.rows k2 e sz none) g ps'),(j,.dead gj)]
    |some (i,j',_)=>if j=j' then bN es fun is=>Owe (0 < is.length∧iK ps a=some i) <| ∀ps',ps'=dS ps a (.sl sz is)→K .any [(r,.map (.rows k2 e sz none) g ps'),(j,.dead gj)] else False) else False
   |_,_,_=>False)
  |_,_,_,_=>False
 |.range t x=>match T.td t,ev x,get id with
  |some ⟨_,_,_,.map _ _⟩,.row r g,some (.dead gd)=>(match get r with
   |some (.map kk g' ps)=>if g=g'∧gF kk=false∧r≠id then K (.ptr id (gd+1) 0) [(r,.dead g),(id,.map (.iter false) (gd+1) ps)] else False
   |_=>False)
  |_,_,_=>False
 |.entry x=>match ev x with
  |.ptr r g 0=>(match get r with
   |some (.map (.iter true) g' ((a,b)::_))=>if g=g' then K (.tup [.imm a,.imm b]) [] else False
   |_=>False)
  |_=>False
 |.call ⟨.builtin .delete,args,ts⟩=>match T.td (ts.getD 0 0),args.toList.map ev with
  |some ⟨_,_,_,.map k _⟩,[.row r g,.imm a]=>(match get r,T.td k with
   |some (.map kk' g' ps),some dk=>if g=g'∧pF T.eq k dk=some kk'∧dH kk' a=true∧ts.size=2∧ts.getD 1 0=k then ∀ps',ps'=yJ ps a→K .any [(r,.map kk' g ps')] else False
   |_,_=>False)
  |_,_=>False
 |.call ⟨.builtin .unsafeSliceData,args,_⟩=>match args.toList.map ev with
  |[.row r g]=>match get r with
   |some (.row _ sz g' es)=>if g=g'∧sz=1 then Owe (0 < es.length) (K (.eptr r g 1 0 0) []) else False
   |_=>False
  |_=>False
 |.call ⟨.builtin .unsafeString,args,ts⟩=>match T.td (ts.getD 0 0),args.toList.map ev with
  |some ⟨_,_,_,.ptr e⟩,[.eptr r g sz i oo,.imm (.int .i64 n)]=>match get r,T.td e with
   |some (.row e' sz' g' es),some d=>if g=g'∧e=e'∧sz=1∧sz'=1∧i=0∧oo=0∧d.size=1∧ts.size=2 then Owe (n=es.length∧0 < es.length) <| Bytes es fun bs=>∀s,s=⟨bs.toArray⟩→K (.imm (.str s)) [(r,.dead (g+1))] else False
   |_,_=>False
  |_,_=>False
 |.call ⟨.builtin .clear,args,ts⟩=>match T.td (ts.getD 0 0),args.toList.map ev with
  |some ⟨_,_,_,.slice e sz _⟩,[.sub r g sz2 q m]=>(match get r,T.td e with
   |some (.row e' sz' g' es),some d=>if g=g'∧e=e'∧sz=sz'∧sz=sz2∧0 < sz∧ts.size=1 then ∀es',es'=es.take q++List.replicate m (PV.imm (eu d))++es.drop (q+m)→K .any [(r,.row e sz g es')] else False
   |_,_=>False)
  |_,_=>False
 |.makeFunc (.func f) first caps=>if first.size=0 then K (if caps.size=0 then .imm (.fn f) else .clo f (caps.toList.map ev)) [] else False
 |.convert s t x=>match T.td s,T.td t,ev x with
  |some ⟨_,_,_,.int _⟩,some ⟨_,_,_,.int k⟩,.imm (.int _ z)=>GD k z fun z=>K (.imm (.int k z)) []
  |some ⟨_,_,_,.str⟩,some ⟨_,_,_,.str⟩,.imm (.str z)=>K (.imm (.str z)) []
  |some ⟨_,_,_,.slice e 1 _⟩,some ⟨_,_,_,.str⟩,.row r g=>(match T.td e,get r with
   |some ⟨_,_,_,.int .u8⟩,some (.row _ 1 g' es)=>if g=g' then Bytes es fun bs=>∀s,s=⟨bs.toArray⟩→K (.imm (.str s)) [] else False
   |_,_=>False)
  |some ⟨_,_,_,.slice e 1 _⟩,some ⟨_,_,_,.str⟩,.imm (.sl 1 es)=>(match T.td e with
   |some ⟨_,_,_,.int .u8⟩=>Bytes (es.map .imm) fun bs=>∀s,s=⟨bs.toArray⟩→K (.imm (.str s)) []
   |_=>False)
  |some ⟨_,_,_,.slice e 1 _⟩,some ⟨_,_,_,.str⟩,.sub r g 1 q m=>(match T.td e,get r with
   |some ⟨_,_,_,.int .u8⟩,some (.row _ 1 g' es)=>if g=g' then Bytes ((es.drop q).take m) fun bs=>∀s,s=⟨bs.toArray⟩→K (.imm (.str s)) [] else False
   |_,_=>False)
  |_,_,_=>False
 |.call ⟨.builtin .len,args,ts⟩=>match T.td (ts.getD 0 0),args.toList.map ev with
  |some ⟨_,_,_,.slice _ _ _⟩,[.imm .nil]=>if ts.size=1 then K (.imm (.int .i64 0)) [] else False
  |some ⟨_,_,_,.slice _ _ _⟩,[.imm (.sl _ es)]=>if ts.size=1 then ∀z,z=((es.length:Nat):Int)→K (.imm (.int .i64 z)) [] else False
  |some ⟨_,_,_,.str⟩,[.imm (.str s)]=>if ts.size=1 then ∀z,z=((s.size:Nat):Int)→K (.imm (.int .i64 z)) [] else False
  |some ⟨_,_,_,.slice _ _ _⟩,[.row r g]=>match get r with
   |some (.row _ _ g' es)=>if ts.size=1∧g=g' then ∀z,z=((es.length:Nat):Int)→K (.imm (.int .i64 z)) [] else False
   |_=>False
  |some ⟨_,_,_,.slice _ _ _⟩,[.sub r g _ _ m]=>match get r with
   |some (.row _ _ g' _)=>if ts.size=1∧g=g' then ∀z,z=((m:Nat):Int)→K (.imm (.int .i64 z)) [] else False
   |_=>False
  |some ⟨_,_,_,.map _ _⟩,[.row r g]=>match get r with
   |some (.map kk g' ps)=>if ts.size=1∧g=g'∧gF kk=false then ∀z,z=((ps.length:Nat):Int)→K (.imm (.int .i64 z)) [] else False
   |_=>False
  |_,_=>False
 |.call ⟨.builtin .max,args,_⟩=>match args.toList.map ev with
  |[.imm (.int k a),.imm (.int _ b)]=>∀z,(a≤z∧b≤z∧(z=a∨z=b))→K (.imm (.int k z)) []
  |_=>False
 |.call ⟨.builtin .min,args,_⟩=>match args.toList.map ev with
  |[.imm (.int k a),.imm (.int _ b)]=>∀z,(z≤a∧z≤b∧(z=a∨z=b))→K (.imm (.int k z)) []
  |_=>False
 |.call ⟨.value f,args,_⟩=>match fnP (ev f) with
  |some (f,cs)=>(match (Ou (T.nw f)||Ro (T.nw f) (args.toList.map ev++cs)) with
   |true=>kE (Ou (T.nw f)) get rd (args.toList.map ev++cs) fun is ws=>ah (fun res=>C.1 f is res) (fun e sz js=>C.2.2 f is e sz js) (fun res=>K (IX res) ws) fun e sz js=>(match get id with
    |some (.dead g)=>∀es,es=js.map .imm→K (.row id (g+1)) (ws++[(id,.row e sz (g+1) es)])
    |_=>False)
   |false=>match tO get rd (args.toList.map ev++cs) with
    |some ps=>wm get rd rd fun Bs=>bV (fun res Bs'=>C.2.1 f ps Bs res Bs') fun res Bs'=>
      if nodupB rd=true∧Bs'.length=rd.length∧cur rd.length (qK Bs') (qP res)=true∧uO rd.length (qK Bs') Bs'=true then K (up (fun i=>rd.getD i 0) (LV get rd Bs') (qP res)) (E5 (fun i=>rd.getD i 0) (LV get rd Bs') 0 Bs') else False
    |none=>False)
  |none=>False
 |_=>False
end Go.Pv
namespace Go.Pv
open Go.RowKit (Below)
set_option linter.unusedSimpArgs false
set_option linter.unusedSectionVars false
theorem gP {k:IntKind} {x:Int} {K:Int→Prop} (h:GD k x K):K (k.wrap x):=by
 cases k<;>first
  |exact h _ rfl
  |exact h _ (fun hx=>IntWalk.i64_in _ hx)
theorem Hw {op:BinOp} {k:IntKind} {a b:Int} {K:IV→Prop} (h:Sk op k a b K):∃i,Dc op k a b=some i∧K i:=by
 have fork:∀{p:Prop} [Decidable p] {K:IV→Prop},Fork p (fun _=>K (.bool true)) (fun _=>K (.bool false))→K (.bool (decide p)):=by
  intro p _ K h
  obtain⟨h1,h2⟩:=h
  by_cases hp:p
  ·simpa[hp]using h1 hp
  ·simpa[hp]using h2 hp
 cases op<;>simp only[Sk]at h<;>simp only[Dc]
 case add=>exact⟨_,rfl,gP (K:=fun z=>K (.int k z)) h⟩
 case sub=>exact⟨_,rfl,gP (K:=fun z=>K (.int k z)) h⟩
 case mul=>exact⟨_,rfl,gP (K:=fun z=>K (.int k z)) h⟩
 case eql=>exact⟨_,rfl,by obtain⟨h1,h2⟩:=h;by_cases hp:a=b<;>simp_all [beq_false_of_ne,bne]⟩
 case neq=>exact⟨_,rfl,by obtain⟨h1,h2⟩:=h;by_cases hp:a=b<;>simp_all [beq_false_of_ne,bne]⟩
 case lss=>exact⟨_,rfl,fork h⟩
 case leq=>exact⟨_,rfl,fork h⟩
 case gtr=>exact⟨_,rfl,fork h⟩
 case geq=>exact⟨_,rfl,fork h⟩
 case quo=>obtain⟨h1,h2⟩:=h;exact⟨_,if_neg h1,gP (K:=fun z=>K (.int k z)) h2⟩
 case rem=>obtain⟨h1,h2⟩:=h;exact⟨_,if_neg h1,h2 _ rfl⟩
 case and=>exact⟨_,rfl,h _ rfl⟩
 case or=>exact⟨_,rfl,h _ rfl⟩
 case xor=>exact⟨_,rfl,h _ rfl⟩
theorem CG {op:BinOp} {k:IntKind} {a b:Int} {K:IV→Prop} (h:Ib op k a b K):∃i,qo op k a b=some i∧K i:=by
 cases op<;>simp only[Ib]at h<;>simp only[qo]
 case shl=>obtain⟨h1,h2⟩:=h;exact⟨_,if_neg (by omega),h2 _ rfl⟩
 case shr=>obtain⟨h1,h2⟩:=h;exact⟨_,if_neg (by omega),h2 _ rfl⟩
theorem kR:∀bs:List UInt8,dX (bs.map fun b=>PV.imm (.int .u8 (b.toNat:Int)))=some bs
 |[]=>rfl
 |b::bs=>by
  have:=b.toNat_lt
  have e:Oe (PV.imm (.int .u8 (b.toNat:Int)))=some b:=by
   show (if 0≤(b.toNat:Int)∧(b.toNat:Int) < 256 then some (UInt8.ofNat (b.toNat:Int).toNat) else none)=some b
   rw[if_pos (by omega)]
   simp
  simp only[List.map_cons]
  unfold dX
  rw[e,kR bs]
theorem GR {op:BinOp} {a b:ByteArray} {K:IV→Prop} (h:SF op a b K):∃i,Cr op a b=some i∧K i:=by
 cases op<;>simp only[SF]at h<;>simp only[Cr]
 case add=>obtain⟨h1,h2⟩:=h;exact⟨_,if_pos h1,h2 _ rfl⟩
 case eql=>exact⟨_,rfl,by obtain⟨h1,h2⟩:=h;by_cases hp:a=b<;>simp_all [beq_false_of_ne,bne]⟩
 case neq=>exact⟨_,rfl,by obtain⟨h1,h2⟩:=h;by_cases hp:a=b<;>simp_all [beq_false_of_ne,bne]⟩
 case lss=>exact⟨_,rfl,by obtain⟨h1,h2⟩:=h;by_cases hp:gY a b=true<;>simp_all⟩
 case leq=>exact⟨_,rfl,by obtain⟨h1,h2⟩:=h;by_cases hp:gY a b=true<;>by_cases hq:a=b<;>simp_all⟩
 case gtr=>exact⟨_,rfl,by obtain⟨h1,h2⟩:=h;by_cases hp:gY a b=true<;>by_cases hq:a=b<;>simp_all⟩
 case geq=>exact⟨_,rfl,by obtain⟨h1,h2⟩:=h;by_cases hp:gY a b=true<;>simp_all⟩
def OW (op:BinOp) (a b:Bool):Option IV:=match op with
 |.eql=>some (.bool (a == b))
 |.neq=>some (.bool (!(a == b)))
 |_=>none
theorem FJ {op:BinOp} {a b:Bool} {K:IV→Prop} (h:Mh op a b K):∃i,OW op a b=some i∧K i:=by
 cases op<;>simp only[Mh]at h<;>simp only[OW]
 case eql=>exact⟨_,rfl,by obtain⟨h1,h2⟩:=h;by_cases hp:a=b<;>simp_all [beq_false_of_ne,bne]⟩
 case neq=>exact⟨_,rfl,by obtain⟨h1,h2⟩:=h;by_cases hp:a=b<;>simp_all [beq_false_of_ne,bne]⟩
def Rw (op:BinOp) (is js:List IV):Option IV:=match op with
 |.eql=>some (.bool (eqC is js))
 |.neq=>some (.bool (!eqC is js))
 |_=>none
theorem Gv {op:BinOp} {is js:List IV} {K:IV→Prop} (h:MU op is js K):∃i,Rw op is js=some i∧K i:=by
 cases op<;>simp only[MU]at h<;>simp only[Rw]
 case eql=>exact⟨_,rfl,by obtain⟨h1,h2⟩:=h;by_cases hp:eqC is js=true<;>simp_all⟩
 case neq=>exact⟨_,rfl,by obtain⟨h1,h2⟩:=h;by_cases hp:eqC is js=true<;>simp_all⟩
def Plain (P:Program) (eqT:TypeId→Option (List CK)) (o:Oper) (id:Nat) (ev:Operand→PV) (get:Nat→Option Blk) (K:PV→List (Nat×Blk)→Prop):Prop:=
 ∃v ws,(∀cr,ak P eqT o id ev get cr=some ⟨v,ws,none⟩)∧K v ws
section
variable {P:Program} {T:Tb} {C:CT} {rd:List Nat} {eqT:TypeId→Option (List CK)} {o:Oper} {id:Nat} {ev:Operand→PV} {get:Nat→Option Blk} {K:PV→List (Nat×Blk)→Prop}
 (hT:∀t d,T.td t=some d→aJ P t=some d) (hE:T.eq=eqT)
include hT hE
theorem Pz {t:TypeId} {x:Operand} (ho:o.op=.load t x) (h:aN T C o.op id ev get rd K):Plain P eqT o id ev get K:=by
 rw[ho]at h
 unfold aN at h
 simp only at h
 split at h
 ·rename_i d r g off hd hx
  split at h
  ·rename_i g' cs bt hb
   split at h
   ·rename_i hg
    split at h
    ·rename_i p hp
     exact⟨p,[],fun cr=>by unfold ak;simp[ho,hT _ _ hd,hx,hb,hg,hp,val],h⟩
    ·exact h.elim
   ·exact h.elim
  ·exact h.elim
 ·rename_i d r g sz i off hd hx
  split at h
  ·rename_i e sz' g' es hb
   split at h
   ·rename_i hg
    obtain⟨p,hp,h⟩:=h
    split at h
    ·rename_i cs hc
     split at h
     ·rename_i q hq
      exact⟨q,[],fun cr=>by unfold ak;simp[ho,hT _ _ hd,hx,hb,hg,hp,hc,hq,val],h⟩
     ·exact h.elim
    ·exact h.elim
   ·exact h.elim
  ·exact h.elim
 ·rename_i d cs hd hx
  split at h
  ·rename_i i hi
   exact⟨.imm i,[],fun cr=>by unfold ak;simp[ho,hT _ _ hd,hx,hi,val],h⟩
  ·exact h.elim
 ·exact h.elim
theorem Od {t:TypeId} {x y:Operand} (ho:o.op=.store t x y) (h:aN T C o.op id ev get rd K):Plain P eqT o id ev get K:=by
 rw[ho]at h
 unfold aN at h
 simp only at h
 split at h
 ·rename_i d r g off ys hd hx hy
  split at h
  ·rename_i g' cs bt hb
   split at h
   ·rename_i hg
    exact⟨.any,_,fun cr=>by unfold ak;simp only[ho,hT _ _ hd,hx,hy,hb];rw[if_pos hg],h⟩
   ·exact h.elim
  ·exact h.elim
 ·rename_i d r g sz i off ys hd hx hy
  split at h
  ·rename_i e sz' g' es hb
   split at h
   ·rename_i hg
    obtain⟨p,hp,h⟩:=h
    split at h
    ·rename_i cs hc
     split at h
     ·rename_i hle
      exact⟨.any,_,fun cr=>by unfold ak;simp only[ho,hT _ _ hd,hx,hy,hb];rw[if_pos hg];simp only[hp,hc];rw[if_pos hle],h _ rfl⟩
     ·exact h.elim
    ·exact h.elim
   ·exact h.elim
  ·exact h.elim
 ·exact h.elim
theorem R6 {op:BinOp} {t ty:TypeId} {x y:Operand} (ho:o.op=.binOp op t x y ty) (h:aN T C o.op id ev get rd K):Plain P eqT o id ev get K:=by
 rw[ho]at h
 unfold aN at h
 simp only at h
 split at h
 ·rename_i k a k' b hx hy
  split at h
  ·rename_i hs
   obtain⟨i,hi,h⟩:=CG h
   exact⟨.imm i,[],fun cr=>by unfold ak;simp[ho,hx,hy,IB,hs,hi,val],h⟩
  ·rename_i hs
   split at h
   ·rename_i hk
    obtain⟨i,hi,h⟩:=Hw h
    exact⟨.imm i,[],fun cr=>by unfold ak;simp[ho,hx,hy,IB,hs,hk,hk ▸ hi,val],h⟩
   ·exact h.elim
 ·rename_i a b hx hy
  obtain⟨i,hi,h⟩:=GR h
  exact⟨.imm i,[],fun cr=>by unfold ak;simp[ho,hx,hy,IB,hi,val],h⟩
 ·rename_i a b hx hy
  split at h
  ·rename_i q1 q2 q3 hd
   obtain⟨i,hi,h⟩:=FJ h
   refine⟨.imm i,[],fun cr=>?_,h⟩
   unfold ak
   simp only[ho,hx,hy,hT _ _ hd]
   unfold OW at hi
   split at hi<;>simp_all [val]
  ·exact h.elim
 ·rename_i is js hx hy
  split at h
  ·rename_i ks hd
   split at h
   ·rename_i hs
    obtain⟨i,hi,h⟩:=Gv h
    refine⟨.imm i,[],fun cr=>?_,h⟩
    unfold ak
    simp only[ho,hx,hy,←hE,hd]
    rw[if_pos hs]
    unfold Rw at hi
    split at hi<;>simp_all [val]
   ·exact h.elim
  ·exact h.elim
 ·rename_i r g off hx hy
  split at h
  ·rename_i q1 q2 q3 g' cs bt hd hb
   split at h
   ·rename_i hg
    split at h
    ·exact⟨_,[],fun cr=>by unfold ak;simp only[ho,hx,hy,hT _ _ hd,hb];rw[if_pos hg];rfl,h⟩
    ·exact⟨_,[],fun cr=>by unfold ak;simp only[ho,hx,hy,hT _ _ hd,hb];rw[if_pos hg];rfl,h⟩
    ·exact h.elim
   ·exact h.elim
  ·exact h.elim
 ·rename_i hx hy
  split at h
  ·rename_i q1 q2 q3 hd
   split at h
   ·exact⟨_,[],fun cr=>by unfold ak;simp only[ho,hx,hy,hT _ _ hd];rfl,h⟩
   ·exact⟨_,[],fun cr=>by unfold ak;simp only[ho,hx,hy,hT _ _ hd];rfl,h⟩
   ·exact h.elim
  ·exact h.elim
 ·rename_i hx hy
  split at h
  ·rename_i q1 q2 q3 hd
   split at h
   ·exact⟨_,[],fun cr=>by unfold ak;simp only[ho,hx,hy,hT _ _ hd];rfl,h⟩
   ·exact⟨_,[],fun cr=>by unfold ak;simp only[ho,hx,hy,hT _ _ hd];rfl,h⟩
   ·exact h.elim
  ·exact h.elim
 ·rename_i hx hy
  split at h
  ·rename_i q1 q2 q3 hd
   split at h
   ·exact⟨_,[],fun cr=>by unfold ak;simp only[ho,hx,hy,hT _ _ hd];rfl,h⟩
   ·exact⟨_,[],fun cr=>by unfold ak;simp only[ho,hx,hy,hT _ _ hd];rfl,h⟩
   ·exact h.elim
  ·exact h.elim
 ·rename_i hx hy
  split at h
  ·rename_i q1 q2 q3 hd
   split at h
   ·exact⟨_,[],fun cr=>by unfold ak;simp only[ho,hx,hy,hT _ _ hd];rfl,h⟩
   ·exact⟨_,[],fun cr=>by unfold ak;simp only[ho,hx,hy,hT _ _ hd];rfl,h⟩
   ·exact h.elim
  ·exact h.elim
 ·exact h.elim
theorem BS {t:TypeId} {x:Operand} {f:Nat} (ho:o.op=.fieldAddr t x f) (h:aN T C o.op id ev get rd K):Plain P eqT o id ev get K:=by
 rw[ho]at h
 unfold aN at h
 simp only at h
 split at h
 ·rename_i q1 q2 q3 fs r g off hd hx
  split at h
  ·rename_i fo fz fa hf
   split at h
   ·rename_i g' cs bt hb
    split at h
    ·rename_i hg
     exact⟨_,_,fun cr=>by unfold ak;simp only[ho,hT _ _ hd,hx,hf,hb];rw[if_pos hg];rfl,h⟩
    ·exact h.elim
   ·exact h.elim
  ·exact h.elim
 ·rename_i q1 q2 q3 fs r g sz i off hd hx
  split at h
  ·rename_i fo fz fa hf
   split at h
   ·rename_i e sz' g' es hb
    split at h
    ·rename_i hg
     exact⟨_,_,fun cr=>by unfold ak;simp only[ho,hT _ _ hd,hx,hf,hb];rw[if_pos hg];rfl,h⟩
    ·exact h.elim
   ·exact h.elim
  ·exact h.elim
 ·rename_i q1 q2 q3 fs cs hd hx
  split at h
  ·rename_i fo fz fa hf
   split at h
   ·exact h.elim
   ·rename_i hz
    exact⟨_,_,fun cr=>by unfold ak;simp only[ho,hT _ _ hd,hx,hf];rw[if_neg hz];rfl,h⟩
  ·exact h.elim
 ·exact h.elim
theorem M8 {t:TypeId} {x:Operand} {f:Nat} (ho:o.op=.field t x f) (h:aN T C o.op id ev get rd K):Plain P eqT o id ev get K:=by
 rw[ho]at h
 unfold aN at h
 simp only at h
 split at h
 ·rename_i q1 q2 q3 fs cs hd hx
  split at h
  ·rename_i fo fz fa hf
   split at h
   ·rename_i i hi
    exact⟨_,_,fun cr=>by unfold ak;simp only[ho,hT _ _ hd,hx,hf,hi];rfl,h⟩
   ·exact h.elim
  ·exact h.elim
 ·rename_i q1 q2 q3 fs ps hd hx
  split at h
  ·rename_i fo fz hf
   split at h
   ·rename_i p hp
    exact⟨_,_,fun cr=>by unfold ak;simp only[ho,hT _ _ hd,hx,hf,hp];rfl,h⟩
   ·exact h.elim
  ·exact h.elim
 ·exact h.elim
theorem CB {t:TypeId} {x ix:Operand} (ho:o.op=.indexAddr t x ix) (h:aN T C o.op id ev get rd K):Plain P eqT o id ev get K:=by
 rw[ho]at h
 unfold aN at h
 simp only at h
 split at h
 ·rename_i q1 q2 q3 q4 sz q5 sz' es kk i hd hx hi
  split at h
  ·rename_i hs
   obtain⟨n,e,cs,h1,h2,h3,h⟩:=h
   subst h1;subst h3;subst hs
   exact⟨_,_,fun cr=>by unfold ak;simp[ho,hT _ _ hd,hx,hi,h2,val],h⟩
  ·exact h.elim
 ·rename_i q1 q2 q3 q4 sz q5 r g kk i hd hx hi
  split at h
  ·rename_i e sz' g' es hb
   split at h
   ·rename_i hg
    obtain⟨n,h1,h2,h⟩:=h
    subst h1
    exact⟨_,_,fun cr=>by unfold ak;simp only[ho,hT _ _ hd,hx,hi,hb];rw[if_pos ⟨hg.1,hg.2,by omega,by simpa using h2⟩];rfl,h⟩
   ·exact h.elim
  ·exact h.elim
 ·rename_i hd hx hi
  split at h
  ·rename_i hb
   split at h
   ·rename_i hg
    obtain⟨h1,h⟩:=h
    exact⟨_,_,fun cr=>by unfold ak;simp only[ho,hT _ _ hd,hx,hi,hb];rw[if_pos ⟨hg.1,hg.2.1,hg.2.2,h1.1,by omega⟩];rfl,h _ rfl⟩
   ·exact h.elim
  ·exact h.elim
 ·rename_i hd hx hi
  split at h
  ·rename_i hb
   split at h
   ·rename_i hg
    obtain⟨hn,n,h1,h2,h⟩:=h
    subst h1
    exact⟨_,_,fun cr=>by unfold ak;simp only[ho,hT _ _ hd,hx,hi,hb];rw[if_pos ⟨hg.1,hg.2.1,hg.2.2.1,hg.2.2.2.1,hg.2.2.2.2,hn,by omega,by simpa using h2⟩];rfl,h⟩
   ·exact h.elim
  ·exact h.elim
 ·rename_i hd hx hi
  obtain⟨h1,h⟩:=h
  exact⟨_,_,fun cr=>by unfold ak;simp only[ho,hT _ _ hd,hx,hi];rw[if_pos ⟨h1.1,by omega⟩];rfl,h _ rfl⟩
 ·exact h.elim
theorem O1 {t:TypeId} {x ix:Operand} (ho:o.op=.index t x ix) (h:aN T C o.op id ev get rd K):Plain P eqT o id ev get K:=by
 rw[ho]at h
 unfold aN at h
 simp only at h
 split at h
 ·rename_i q1 q2 q3 s kk i hd hx hi
  obtain⟨h1,h⟩:=h
  have hlt:i.toNat < s.data.size:=by have:s.data.size=s.size:=rfl;omega
  have hg:s.data[i.toNat]?=some s.data[i.toNat]:=Array.getElem?_eq_getElem hlt
  exact⟨_,_,fun cr=>by unfold ak;simp only[ho,hT _ _ hd,hx,hi];rw[if_pos h1.1,hg];rfl,h _ _ hg rfl⟩
 ·exact h.elim
theorem NA {t:TypeId} {parts:Array (Nat×Operand)} (ho:o.op=.build t parts) (h:aN T C o.op id ev get rd K):Plain P eqT o id ev get K:=by
 rw[ho]at h
 unfold aN at h
 simp only at h
 split at h
 ·rename_i q1 q2 zs fs hd
  split at h
  ·rename_i cs hc
   exact⟨_,_,fun cr=>by unfold ak;simp only[ho,hT _ _ hd];rw[hc];rfl,h⟩
  ·exact h.elim
 ·exact h.elim
theorem yK {t:TypeId} {n:Nat} {parts:Array (Nat×Operand)} (ho:o.op=.buildSlice t n parts) (h:aN T C o.op id ev get rd K):Plain P eqT o id ev get K:=by
 rw[ho]at h
 unfold aN at h
 simp only at h
 split at h
 ·rename_i q1 q2 q3 e sz q4 g ps hd hg hp
  rw[cZ]at h
  split at h
  ·rename_i hc
   obtain⟨h1,h2,h3,h4,h5⟩:=hc
   have he:(aJ P e).isSome=true:=by
    cases hx:T.td e with
    |none=>rw[hx]at h2;cases h2
    |some d=>rw[hT _ _ hx];rfl
   exact⟨_,_,fun cr=>by unfold ak;simp only[ho,hT _ _ hd,hg];rw[hp];simp only[];rw[if_pos ⟨h1,he,h3,h4,h5⟩],h⟩
  ·exact h.elim
 ·exact h.elim
theorem LW {t:TypeId} {x:Operand} {lo hi:Option Operand} (ho:o.op=.slice t x lo hi none) (h:aN T C o.op id ev get rd K):Plain P eqT o id ev get K:=by
 rw[ho]at h
 unfold aN at h
 simp only at h
 split at h
 ·rename_i q1 q2 q3 s l hd hx hl
  split at h
  ·obtain⟨h1,h⟩:=h
   exact⟨_,_,fun cr=>by unfold ak;simp only[ho,hT _ _ hd,hx,hl];simp only[bound];rw[if_pos ⟨h1.1,h1.2,Int.le_refl _⟩];rfl,h _ rfl⟩
  ·rename_i y
   split at h
   ·rename_i kk hh hy
    obtain⟨h1,h⟩:=h
    exact⟨_,_,fun cr=>by unfold ak;simp only[ho,hT _ _ hd,hx,hl];simp only[bound,hy];rw[if_pos h1];rfl,h _ rfl⟩
   ·exact h.elim
 ·rename_i q1 q2 q3 q4 sz q5 sz' es l hd hx hl
  split at h
  ·rename_i hs
   split at h
   ·obtain⟨h1,h⟩:=h
    refine⟨_,_,fun cr=>by unfold ak;simp only[ho,hT _ _ hd,hx,hl];simp only[bound];rw[if_pos ⟨hs,h1.1,h1.2,Int.le_refl _⟩];rfl,h _ ?_⟩
    rw[List.take_of_length_le (by simp)]
   ·rename_i y
    split at h
    ·rename_i kk hh hy
     obtain⟨h1,h⟩:=h
     exact⟨_,_,fun cr=>by unfold ak;simp only[ho,hT _ _ hd,hx,hl];simp only[bound,hy];rw[if_pos ⟨hs,h1⟩];rfl,h _ rfl⟩
    ·exact h.elim
  ·exact h.elim
 ·rename_i q1 q2 q3 q4 sz q5 r g l hd hx hl
  split at h
  ·rename_i e sz' g' es hb
   split at h
   ·split at h
    ·rename_i hs
     split at h
     ·obtain⟨h1,h⟩:=h
      exact⟨_,_,fun cr=>by unfold ak;simp only[ho,hT _ _ hd,hx,hl,hb];simp only[bound];rw[if_pos ⟨hs.1,hs.2,h1.1,h1.2,Int.le_refl _⟩];rfl,h _ rfl _ (by omega)⟩
     ·rename_i y
      split at h
      ·rename_i kk hh hy
       obtain⟨h1,h⟩:=h
       exact⟨_,_,fun cr=>by unfold ak;simp only[ho,hT _ _ hd,hx,hl,hb];simp only[bound,hy];rw[if_pos ⟨hs.1,hs.2,h1⟩];rfl,h _ rfl _ rfl⟩
      ·exact h.elim
    ·exact h.elim
   split at h
   ·rename_i hs
    split at h
    ·rename_i y
     split at h
     ·rename_i kk hh hy
      obtain⟨h1,h⟩:=h
      exact⟨_,_,fun cr=>by unfold ak;simp only[ho,hT _ _ hd,hx,hl,hb];simp only[bound,hy];rw[if_pos ⟨hs.1,hs.2.1,hs.2.2,h1.1,h1.2⟩],h _ rfl⟩
     ·exact h.elim
    ·exact h.elim
   ·exact h.elim
  ·exact h.elim
 ·rename_i q1 q2 q3 q4 sz q5 r g sz' q m l hd hx hl
  split at h
  ·rename_i e sz2 g' es hb
   split at h
   ·rename_i hs
    split at h
    ·obtain⟨h1,h⟩:=h
     exact⟨_,_,fun cr=>by unfold ak;simp only[ho,hT _ _ hd,hx,hl,hb];simp only[bound];rw[if_pos ⟨hs.1,hs.2.1,hs.2.2,h1.1,h1.2,Int.le_refl _⟩];rfl,h _ rfl _ (by omega)⟩
    ·rename_i y
     split at h
     ·rename_i kk hh hy
      obtain⟨h1,h⟩:=h
      exact⟨_,_,fun cr=>by unfold ak;simp only[ho,hT _ _ hd,hx,hl,hb];simp only[bound,hy];rw[if_pos ⟨hs.1,hs.2.1,hs.2.2,h1⟩];rfl,h _ rfl _ rfl⟩
     ·exact h.elim
   ·exact h.elim
  ·exact h.elim
 ·rename_i hd hx hl
  split at h
  ·rename_i hb
   split at h
   ·split at h
    ·rename_i hg
     obtain⟨h1,h⟩:=h
     obtain⟨hn,h2,h3⟩:=h1
     exact⟨_,_,fun cr=>by unfold ak;simp only[ho,hT _ _ hd,hx,hl,hb];rw[if_pos ⟨hg.1,hg.2.1,hg.2.2.1,hg.2.2.2.1,hg.2.2.2.2,hn,h2,by omega⟩];rfl,h _ rfl _ (by rw[hn])⟩
    ·exact h.elim
   ·exact h.elim
  ·exact h.elim
 ·exact h.elim
theorem Ku {args:Array Operand} {ts:Array TypeId} (ho:o.op=.call ⟨.builtin .append,args,ts⟩) (h:aN T C o.op id ev get rd K):Plain P eqT o id ev get K:=by
 rw[ho]at h
 unfold aN at h
 simp only at h
 split at h
 ·rename_i q1 q2 q3 e sz bytes s x hd hx
  split at h
  ·rename_i hc
   obtain⟨h1,h2,h3,h4,h5⟩:=hc
   have he:(aJ P e).isSome=true:=by
    cases hx:T.td e with
    |none=>rw[hx]at h1;cases h1
    |some d=>rw[hT _ _ hx];rfl
   have hc':(aJ P e).isSome=true∧0 < sz∧bytes≤100000∧ts.size=2∧ts.getD 1 0=ts.getD 0 0:=⟨he,h2,h3,h4,h5⟩
   split at h
   ·split at h
    ·rename_i g hg
     split at h
     ·exact⟨_,_,fun cr=>by unfold ak;simp only[ho,hT _ _ hd,hx];rw[if_pos hc'];simp only[mG,hg];rw[if_pos (by simp)],h⟩
     ·rename_i sz' es
      split at h
      ·rename_i hs
       obtain⟨h6,h⟩:=h
       exact⟨_,_,fun cr=>by unfold ak;simp only[ho,hT _ _ hd,hx];rw[if_pos hc'];simp only[mG,hg,if_pos hs];rw[if_pos (by simpa using h6)],h _ rfl⟩
      ·exact h.elim
     ·rename_i r g'
      split at h
      ·rename_i e' sz' g'' es hb
       split at h
       ·rename_i hs
        obtain⟨h6,h⟩:=h
        exact⟨_,_,fun cr=>by unfold ak;simp only[ho,hT _ _ hd,hx];rw[if_pos hc'];simp only[mG,hg,hb,if_pos hs];rw[if_pos h6],h⟩
       ·exact h.elim
      ·exact h.elim
     ·rename_i r g' sz' q m
      split at h
      ·rename_i e' sz2 g'' es hb
       split at h
       ·rename_i hs
        obtain⟨h6,h⟩:=h
        exact⟨_,_,fun cr=>by unfold ak;simp only[ho,hT _ _ hd,hx];rw[if_pos hc'];simp only[mG,hg,hb];rw[if_pos ⟨hs.1,hs.2.1,hs.2.2,h6.1⟩];simp only[];rw[if_pos (by rw[List.length_take,List.length_drop];omega)],h _ rfl⟩
       ·exact h.elim
      ·exact h.elim
     ·exact h.elim
    ·exact h.elim
   ·rename_i r g
    split at h
    ·rename_i e' sz' g' es hb
     split at h
     ·rename_i hs
      obtain⟨hs1,hs2,hs3,hs4⟩:=hs
      split at h
      ·obtain⟨h6,h⟩:=h
       exact⟨_,_,fun cr=>by unfold ak;simp only[ho,hT _ _ hd,hx];rw[if_pos hc'];simp only[mG,hb];rw[if_pos ⟨hs1,hs2,hs3,Or.inl (by simpa using h6),hs4⟩];simp,h⟩
      ·rename_i sz' xs
       split at h
       ·rename_i hs'
        obtain⟨h6,h⟩:=h
        exact⟨_,_,fun cr=>by unfold ak;simp only[ho,hT _ _ hd,hx];rw[if_pos hc'];simp only[mG,hb,if_pos hs'];rw[if_pos ⟨hs1,hs2,hs3,by rw[List.length_map];exact h6,hs4⟩],h _ rfl⟩
       ·exact h.elim
      ·rename_i r' g''
       split at h
       ·rename_i e3 sz'' g3 xs hb'
        split at h
        ·rename_i hs'
         obtain⟨h6,h⟩:=h
         exact⟨_,_,fun cr=>by unfold ak;simp only[ho,hT _ _ hd,hx];rw[if_pos hc'];simp only[mG,hb,hb',if_pos hs'];rw[if_pos ⟨hs1,hs2,hs3,h6,hs4⟩],h _ rfl⟩
        ·exact h.elim
       ·exact h.elim
      ·rename_i r' g'' sz'' q m
       split at h
       ·rename_i e3 sz2 g3 xs hb'
        split at h
        ·rename_i hs'
         obtain⟨h6,h⟩:=h
         exact⟨_,_,fun cr=>by unfold ak;simp only[ho,hT _ _ hd,hx];rw[if_pos hc'];simp only[mG,hb,hb'];rw[if_pos ⟨hs'.1,hs'.2.1,hs'.2.2,h6.1⟩];simp only[];rw[if_pos ⟨hs1,hs2,hs3,Or.inl (by rw[List.length_take,List.length_drop];omega),hs4⟩],h _ rfl⟩
        ·exact h.elim
       ·exact h.elim
      ·exact h.elim
     ·exact h.elim
    ·exact h.elim
   ·rename_i sz' es
    split at h
    ·rename_i g hg
     split at h
     ·rename_i hs
      split at h
      ·rename_i xs hx'
       obtain⟨h6,h⟩:=h
       obtain⟨h7,h8⟩:=h
       by_cases hx0:xs.length=0
       ·exact⟨_,_,fun cr=>by unfold ak;simp only[ho,hT _ _ hd,hx];rw[if_pos hc'];simp only[hx',hg];rw[if_pos ⟨hs,h6⟩,if_pos hx0];rfl,h7 hx0 _ rfl⟩
       ·exact⟨_,_,fun cr=>by unfold ak;simp only[ho,hT _ _ hd,hx];rw[if_pos hc'];simp only[hx',hg];rw[if_pos ⟨hs,h6⟩,if_neg hx0],h8 hx0 _ rfl⟩
      ·exact h.elim
     ·exact h.elim
    ·exact h.elim
   ·exact h.elim
  ·unfold Rb at h
   split at h
   ·rename_i d _ _ _ b hde hdu
    split at h
    ·rename_i hc2
     have hne:¬((aJ P e).isSome=true∧0 < sz∧bytes≤100000∧ts.size=2∧ts.getD 1 0=ts.getD 0 0):=by
      rintro⟨_,_,_,_,h5⟩
      have h6:=hT _ _ hdu
      rw[h5,hT _ _ hd]at h6
      cases h6
     split at h
     ·split at h
      ·rename_i g hg
       obtain⟨h6,h⟩:=h
       exact⟨_,_,fun cr=>by unfold ak;simp only[ho,hT _ _ hd,hx];rw[if_neg hne];unfold O8;simp only[hT _ _ hde,hT _ _ hdu,hg];rw[if_pos hc2,if_pos h6],h _ rfl⟩
      ·exact h.elim
     ·split at h
      ·rename_i hb
       split at h
       ·rename_i hs
        obtain⟨h6,h⟩:=h
        exact⟨_,_,fun cr=>by unfold ak;simp only[ho,hT _ _ hd,hx];rw[if_neg hne];unfold O8;simp only[hT _ _ hde,hT _ _ hdu,hb];rw[if_pos hc2,if_pos ⟨hs.1,hs.2.1,hs.2.2,h6⟩],h _ rfl⟩
       ·exact h.elim
      ·exact h.elim
     ·exact h.elim
    ·exact h.elim
   ·exact h.elim
 ·exact h.elim
theorem PZ {args:Array Operand} {ts:Array TypeId} (ho:o.op=.call ⟨.builtin .copy,args,ts⟩) (h:aN T C o.op id ev get rd K):Plain P eqT o id ev get K:=by
 rw[ho]at h
 unfold aN at h
 simp only at h
 split at h
 ·rename_i hd hx
  split at h
  ·rename_i hg hs
   split at h
   ·rename_i h2
    obtain⟨h3,h4⟩:=h
    exact⟨_,_,fun cr=>by unfold ak;simp only[ho,hT _ _ hd,hx,hg,hs];rw[if_pos ⟨h2.1,h2.2.1,h2.2.2.1,h2.2.2.2.1,h2.2.2.2.2,h3.1,h3.2⟩],h4 _ rfl⟩
   ·exact h.elim
  ·exact h.elim
 ·rename_i hd hx
  split at h
  ·rename_i hg hs
   split at h
   ·rename_i h2
    obtain⟨h3,h4⟩:=h
    exact⟨_,_,fun cr=>by unfold ak;simp only[ho,hT _ _ hd,hx,hg,hs];rw[if_pos ⟨h2.1,h2.2.1,h2.2.2.1,h2.2.2.2.1,h2.2.2.2.2.1,h2.2.2.2.2.2,h3.1,h3.2⟩],h4 _ rfl _ rfl⟩
   ·exact h.elim
  ·exact h.elim
 ·exact h.elim
theorem LM {t:TypeId} {x y mx:Operand} {lo:Option Operand} (ho:o.op=.slice t x lo (some y) (some mx)) (h:aN T C o.op id ev get rd K):Plain P eqT o id ev get K:=by
 rw[ho]at h
 unfold aN at h
 simp only at h
 split at h
 ·rename_i hd hx hl hy hm
  split at h
  ·rename_i hs
   obtain⟨h1,h⟩:=h
   exact⟨_,_,fun cr=>by unfold ak;simp only[ho,hT _ _ hd,hx,hl,hy,hm];rw[if_pos ⟨hs,h1⟩];rfl,h _ rfl⟩
  ·exact h.elim
 ·exact h.elim
theorem RN {args:Array Operand} {ts:Array TypeId} (ho:o.op=.call ⟨.builtin .len,args,ts⟩) (h:aN T C o.op id ev get rd K):Plain P eqT o id ev get K:=by
 rw[ho]at h
 unfold aN at h
 simp only at h
 split at h
 ·rename_i hd hx
  split at h
  ·rename_i ht
   exact⟨_,_,fun cr=>by unfold ak;simp only[ho,hT _ _ hd,hx];rw[if_pos ht];rfl,h⟩
  ·exact h.elim
 ·rename_i hd hx
  split at h
  ·rename_i ht
   exact⟨_,_,fun cr=>by unfold ak;simp only[ho,hT _ _ hd,hx];rw[if_pos ht];rfl,h _ rfl⟩
  ·exact h.elim
 ·rename_i hd hx
  split at h
  ·rename_i ht
   exact⟨_,_,fun cr=>by unfold ak;simp only[ho,hT _ _ hd,hx];rw[if_pos ht];rfl,h _ rfl⟩
  ·exact h.elim
 ·rename_i hd hx
  split at h
  ·rename_i hb
   split at h
   ·rename_i ht
    exact⟨_,_,fun cr=>by unfold ak;simp only[ho,hT _ _ hd,hx,hb];rw[if_pos ht];rfl,h _ rfl⟩
   ·exact h.elim
  ·exact h.elim
 ·rename_i hd hx
  split at h
  ·rename_i hb
   split at h
   ·rename_i ht
    exact⟨_,_,fun cr=>by unfold ak;simp only[ho,hT _ _ hd,hx,hb];rw[if_pos ht];rfl,h _ rfl⟩
   ·exact h.elim
  ·exact h.elim
 ·rename_i hd hx
  split at h
  ·rename_i hb
   split at h
   ·rename_i ht
    exact⟨_,_,fun cr=>by unfold ak;simp only[ho,hT _ _ hd,hx,hb];rw[if_pos ht];rfl,h _ rfl⟩
   ·exact h.elim
  ·exact h.elim
 ·exact h.elim
theorem BI {t:TypeId} {l c:Operand} (ho:o.op=.makeSlice t l c) (h:aN T C o.op id ev get rd K):Plain P eqT o id ev get K:=by
 rw[ho]at h
 unfold aN at h
 simp only at h
 split at h
 ·rename_i hd hg hl hc
  split at h
  ·rename_i d hk
   split at h
   ·rename_i h2
    obtain⟨h3,h4⟩:=h
    exact⟨_,_,fun cr=>by unfold ak;simp only[ho,hT _ _ hd,hg,hl,hc,hT _ _ hk];rw[if_pos ⟨h2.1,h2.2,h3.1,h3.2.1,h3.2.2⟩],h4 _ rfl⟩
   ·exact h.elim
  ·exact h.elim
 ·exact h.elim
theorem IK {t:TypeId} (ho:o.op=.makeMap t none) (h:aN T C o.op id ev get rd K):Plain P eqT o id ev get K:=by
 rw[ho]at h
 unfold aN at h
 simp only at h
 split at h
 ·rename_i hd hg
  split at h
  ·rename_i d hk
   split at h
   ·rename_i kk hc
    rw[hE]at hc
    exact⟨_,_,fun cr=>by unfold ak;simp only[ho,hT _ _ hd,hg,hT _ _ hk,Option.bind_some,hc],h⟩
   ·exact h.elim
  ·exact h.elim
 ·exact h.elim
omit hT hE in
theorem EF {kk:MK} {e:TypeId} {sz:Nat} {o:Option (Nat×Nat×Nat)} (h:kk=.rows kk e sz o):False:=by
 induction kk generalizing e sz o with
 |rows kk' e' sz' o' ih=>
  injection h with h1 h2 h3 h4
  subst h2;subst h3;subst h4
  exact ih h1
 |_=>cases h
theorem Kw {t:TypeId} {m x:Operand} {ok:Bool} (ho:o.op=.lookup t m x ok) (h:aN T C o.op id ev get rd K):Plain P eqT o id ev get K:=by
 rw[ho]at h
 unfold aN at h
 simp only at h
 split at h
 ·rename_i hd hm hx
  split at h
  ·rename_i k2 e2 sz2 o2 g' ps dk d hb hk he
   split at h
   ·rename_i hc
    obtain⟨rfl,rfl,hck,hkey⟩:=hc
    rw[hE]at hck
    rcases o2 with _|⟨i,j,gj⟩
    ·obtain⟨h1,h2⟩:=h
     exact⟨_,_,fun cr=>by unfold ak;simp only[ho,hT _ _ hd,hm,hx,hb,hT _ _ hk,hT _ _ he,Option.bind_some,hck];rw[if_neg (fun h=>EF h.2.1),if_pos ⟨trivial,trivial,hkey⟩];unfold JY;dsimp only;rw[if_pos rfl,h1];rfl,h2⟩
    ·obtain⟨h1,h2⟩:=h
     exact⟨_,_,fun cr=>by unfold ak;simp only[ho,hT _ _ hd,hm,hx,hb,hT _ _ hk,hT _ _ he,Option.bind_some,hck];rw[if_neg (fun h=>EF h.2.1),if_pos ⟨trivial,trivial,hkey⟩];unfold JY;dsimp only;rw[if_pos rfl,h1];dsimp only;rw[if_pos rfl];rfl,h2⟩
   ·exact h.elim
  ·rename_i kk' g' ps dk d _ hb hk he
   split at h
   ·rename_i hc
    obtain⟨rfl,hck,hkey⟩:=hc
    rw[hE]at hck
    obtain⟨v,b,h1,h2,h3⟩:=h
    refine⟨lookO ok (eu d) (fB ps _),[],fun cr=>by unfold ak;simp only[ho,hT _ _ hd,hm,hx,hb,hT _ _ hk,hT _ _ he,Option.bind_some,hck];rw[if_pos ⟨trivial,trivial,hkey⟩];rfl,?_⟩
    unfold lookO
    rw[h1,h2]
    cases ok<;>exact h3
   ·exact h.elim
  ·exact h.elim
 ·rename_i hd hm hx
  split at h
  ·rename_i dk d hk he
   split at h
   ·rename_i kk hck
    rw[hE]at hck
    split at h
    ·rename_i hkey
     refine⟨lookO ok (eu d) none,[],fun cr=>by unfold ak;simp only[ho,hT _ _ hd,hm,hx,hT _ _ hk,hT _ _ he,Option.bind_some,hck];rw[if_pos hkey];rfl,?_⟩
     unfold lookO
     cases ok<;>exact h
    ·exact h.elim
   ·exact h.elim
  ·exact h.elim
 ·exact h.elim
theorem Bd {t:TypeId} {m x y:Operand} (ho:o.op=.mapUpdate t m x y) (h:aN T C o.op id ev get rd K):Plain P eqT o id ev get K:=by
 rw[ho]at h
 unfold aN at h
 simp only at h
 split at h
 ·rename_i hd hm hx hy
  split at h
  ·rename_i kk' g' ps dk hb hk
   split at h
   ·rename_i hc
    obtain⟨rfl,hck,hkey⟩:=hc
    rw[hE]at hck
    exact⟨_,_,fun cr=>by unfold ak;simp only[ho,hT _ _ hd,hm,hx,hy,toI,hb,hT _ _ hk,Option.bind_some,hck];rw[if_pos ⟨trivial,trivial,hkey⟩],h _ rfl⟩
   ·exact h.elim
  ·exact h.elim
 ·rename_i hd hm hx hy
  split at h
  ·rename_i k2 e sz o2 g' ps e' sz' gj' es dk hb hj hk
   split at h
   ·rename_i hc
    obtain⟨rfl,hck,hkey,rfl,rfl,rfl,hrj⟩:=hc
    rw[hE]at hck
    rcases o2 with _|⟨i,j',gj⟩
    ·obtain⟨is,h0,h1,h2⟩:=h
     cases is with
     |nil=>exact absurd h1.1 (by simp)
     |cons i0 is=>exact⟨_,_,fun cr=>by unfold ak;simp only[ho,hT _ _ hd,hm,hx,hy,toI,hb,hj,hT _ _ hk,Option.bind_some,hck,KU];rw[if_pos ⟨trivial,trivial,hkey,trivial,trivial,trivial,hrj⟩,oI h0,h1.2],h2 _ rfl⟩
    ·dsimp only at h
     split at h
     ·rename_i hjj
      subst hjj
      obtain⟨is,h0,h1,h2⟩:=h
      cases is with
      |nil=>exact absurd h1.1 (by simp)
      |cons i0 is=>exact⟨_,_,fun cr=>by unfold ak;simp only[ho,hT _ _ hd,hm,hx,hy,toI,hb,hj,hT _ _ hk,Option.bind_some,hck,KU];rw[if_pos ⟨trivial,trivial,hkey,trivial,trivial,trivial,hrj⟩,oI h0,h1.2];dsimp only;rw[if_pos ⟨rfl,rfl⟩],h2 _ rfl⟩
     ·exact h.elim
   ·exact h.elim
  ·exact h.elim
 ·exact h.elim
theorem KY {t:TypeId} {m x y:Operand} (ho:o.op=.insert t m x y) (h:aN T C o.op id ev get rd K):Plain P eqT o id ev get K:=by
 rw[ho]at h
 unfold aN at h
 simp only at h
 split at h
 ·rename_i hd hm hx hy
  split at h
  ·rename_i kk' g' ps dk hb hk
   split at h
   ·rename_i hc
    obtain⟨rfl,hck,hkey⟩:=hc
    rw[hE]at hck
    exact⟨_,_,fun cr=>by unfold ak;simp only[ho,hT _ _ hd,hm,hx,hy,toI,hb,hT _ _ hk,Option.bind_some,hck];rw[if_pos ⟨trivial,trivial,hkey⟩],h _ rfl⟩
   ·exact h.elim
  ·exact h.elim
 ·rename_i hd hm hx hy
  split at h
  ·rename_i k2 e sz o2 g' ps e' sz' gj' es dk hb hj hk
   split at h
   ·rename_i hc
    obtain⟨rfl,hck,hkey,rfl,rfl,rfl,hrj⟩:=hc
    rw[hE]at hck
    rcases o2 with _|⟨i,j',gj⟩
    ·obtain⟨is,h0,h1,h2⟩:=h
     cases is with
     |nil=>exact absurd h1.1 (by simp)
     |cons i0 is=>exact⟨_,_,fun cr=>by unfold ak;simp only[ho,hT _ _ hd,hm,hx,hy,toI,hb,hj,hT _ _ hk,Option.bind_some,hck,KU];rw[if_pos ⟨trivial,trivial,hkey,trivial,trivial,trivial,hrj⟩,oI h0,h1.2],h2 _ rfl⟩
    ·dsimp only at h
     split at h
     ·rename_i hjj
      subst hjj
      obtain⟨is,h0,h1,h2⟩:=h
      cases is with
      |nil=>exact absurd h1.1 (by simp)
      |cons i0 is=>exact⟨_,_,fun cr=>by unfold ak;simp only[ho,hT _ _ hd,hm,hx,hy,toI,hb,hj,hT _ _ hk,Option.bind_some,hck,KU];rw[if_pos ⟨trivial,trivial,hkey,trivial,trivial,trivial,hrj⟩,oI h0,h1.2];dsimp only;rw[if_pos ⟨rfl,rfl⟩],h2 _ rfl⟩
     ·exact h.elim
   ·exact h.elim
  ·exact h.elim
 ·exact h.elim
theorem OV {t:TypeId} {x:Operand} (ho:o.op=.range t x) (h:aN T C o.op id ev get rd K):Plain P eqT o id ev get K:=by
 rw[ho]at h
 unfold aN at h
 simp only at h
 split at h
 ·rename_i hd hx hg
  split at h
  ·rename_i hb
   split at h
   ·rename_i hc
    exact⟨_,_,fun cr=>by unfold ak;simp only[ho,hT _ _ hd,hx,hg,hb];rw[if_pos hc],h⟩
   ·exact h.elim
  ·exact h.elim
 ·exact h.elim
theorem Ot {x:Operand} (ho:o.op=.entry x) (h:aN T C o.op id ev get rd K):Plain P eqT o id ev get K:=by
 rw[ho]at h
 unfold aN at h
 simp only at h
 split at h
 ·rename_i hx
  split at h
  ·rename_i hb
   split at h
   ·rename_i hc
    exact⟨_,_,fun cr=>by unfold ak;simp only[ho,hx,hb];rw[if_pos hc];rfl,h⟩
   ·exact h.elim
  ·exact h.elim
 ·exact h.elim
theorem Lg {args:Array Operand} {ts:Array TypeId} (ho:o.op=.call ⟨.builtin .delete,args,ts⟩) (h:aN T C o.op id ev get rd K):Plain P eqT o id ev get K:=by
 rw[ho]at h
 unfold aN at h
 simp only at h
 split at h
 ·rename_i hd hx
  split at h
  ·rename_i hb hk
   split at h
   ·rename_i hc
    obtain⟨h1,hck,h2,h3,h4⟩:=hc
    rw[hE]at hck
    exact⟨_,_,fun cr=>by unfold ak;simp only[ho,hT _ _ hd,hx,hb,hT _ _ hk,Option.bind_some,hck];rw[if_pos ⟨h1,trivial,h2,h3,h4⟩],h _ rfl⟩
   ·exact h.elim
  ·exact h.elim
 ·exact h.elim
theorem Oq {args:Array Operand} {ts:Array TypeId} (ho:o.op=.call ⟨.builtin .clear,args,ts⟩) (h:aN T C o.op id ev get rd K):Plain P eqT o id ev get K:=by
 rw[ho]at h
 unfold aN at h
 simp only at h
 split at h
 ·rename_i hd hx
  split at h
  ·rename_i hb hk
   split at h
   ·rename_i hc
    exact⟨_,_,fun cr=>by unfold ak;simp only[ho,hT _ _ hd,hx,hb,hT _ _ hk];rw[if_pos hc],h _ rfl⟩
   ·exact h.elim
  ·exact h.elim
 ·exact h.elim
theorem Cz {args:Array Operand} {ts:Array TypeId} (ho:o.op=.call ⟨.builtin .unsafeSliceData,args,ts⟩) (h:aN T C o.op id ev get rd K):Plain P eqT o id ev get K:=by
 rw[ho]at h
 unfold aN at h
 simp only at h
 split at h
 ·rename_i hx
  split at h
  ·rename_i hb
   split at h
   ·rename_i hc
    obtain⟨h1,h⟩:=h
    exact⟨_,_,fun cr=>by unfold ak;simp only[ho,hx,hb];rw[if_pos ⟨hc.1,hc.2,h1⟩];rfl,h⟩
   ·exact h.elim
  ·exact h.elim
 ·exact h.elim
theorem uP {args:Array Operand} {ts:Array TypeId} (ho:o.op=.call ⟨.builtin .unsafeString,args,ts⟩) (h:aN T C o.op id ev get rd K):Plain P eqT o id ev get K:=by
 rw[ho]at h
 unfold aN at h
 simp only at h
 split at h
 ·rename_i hd hx
  split at h
  ·rename_i hb hd2
   split at h
   ·rename_i hc
    obtain⟨h1,bs,he,h⟩:=h
    subst he
    exact⟨_,_,fun cr=>by unfold ak;simp only[ho,hT _ _ hd,hx,hb,hT _ _ hd2];rw[if_pos ⟨hc,h1⟩,kR];rfl,h _ rfl⟩
   ·exact h.elim
  ·exact h.elim
 ·exact h.elim
theorem I5 {t u:TypeId} {x:Operand} (ho:o.op=.convert t u x) (h:aN T C o.op id ev get rd K):Plain P eqT o id ev get K:=by
 rw[ho]at h
 unfold aN at h
 simp only at h
 split at h
 ·rename_i hd hd' hx
  exact⟨_,_,fun cr=>by unfold ak;simp only[ho,hT _ _ hd,hT _ _ hd',hx];rfl,gP (K:=fun z=>K (.imm (.int _ z)) []) h⟩
 ·rename_i hd hd' hx
  exact⟨_,_,fun cr=>by unfold ak;simp only[ho,hT _ _ hd,hT _ _ hd',hx];rfl,h⟩
 ·rename_i hd hd' hx
  split at h
  ·rename_i hd3 hb
   split at h
   ·rename_i hg
    obtain⟨bs,he,h⟩:=h
    subst he
    exact⟨_,_,fun cr=>by unfold ak;simp only[ho,hT _ _ hd,hT _ _ hd',hx,hT _ _ hd3,hb];rw[if_pos hg,kR];rfl,h _ rfl⟩
   ·exact h.elim
  ·exact h.elim
 ·rename_i hd hd' hx
  split at h
  ·rename_i hd3
   obtain⟨bs,he,h⟩:=h
   exact⟨_,_,fun cr=>by unfold ak;simp only[ho,hT _ _ hd,hT _ _ hd',hx,hT _ _ hd3];rw[he,kR];rfl,h _ rfl⟩
  ·exact h.elim
 ·rename_i hd hd' hx
  split at h
  ·rename_i hd3 hb
   split at h
   ·rename_i hg
    obtain⟨bs,he,h⟩:=h
    exact⟨_,_,fun cr=>by unfold ak;simp only[ho,hT _ _ hd,hT _ _ hd',hx,hT _ _ hd3,hb];rw[if_pos hg,he,kR];rfl,h _ rfl⟩
   ·exact h.elim
  ·exact h.elim
 ·exact h.elim
omit hE in
theorem R7 {t:TypeId} (ho:o.op=.alloc t) (h:aN T C o.op id ev get rd K):Plain P eqT o id ev get K:=by
 rw[ho]at h
 unfold aN at h
 simp only at h
 split at h
 ·rename_i hd hg
  split at h
  ·rename_i ha
   split at h
   ·rename_i hc
    exact⟨_,_,fun cr=>by unfold ak;simp only[ho,hT _ _ hd,hg,ha];rw[if_pos hc],h⟩
   ·exact h.elim
  ·rename_i ha
   exact⟨_,_,fun cr=>by unfold ak;simp only[ho,hT _ _ hd,hg,ha],h⟩
 ·exact h.elim
end
end Go.Pv
namespace Go.Pv
open Go.RowKit (Below)
set_option linter.unusedSimpArgs false
set_option linter.unusedSectionVars false
theorem zK {Γ:Ctx} {k:K} {B:List Blk} {w:World} (hI:Inv Γ k B w) {r g sz:Nat} {e:TypeId} {es:List PV} {is:List IV} (hb:B[r]?=some (.row e sz g es)) (hln:es.length=is.length) (hx:∃xs,w.ownsRow Γ.N e sz (k.ρ r) es.length xs∧aL k B.length w sz (is.map .imm) xs) :
  ∃k':K,(k'.ρ=k.ρ∧k'.G=k.G)∧Ext k B.length w k' B.length w∧Inv Γ k' (B.set r (.dead g)) w∧(∀v,Rep k B.length w (.row r g) v→aF k'.Q w (.sl sz is) v):=by
 have hrl:r < B.length:=(List.getElem?_eq_some_iff.1 hb).1
 let k':K:=⟨k.ρ,k.G,fun b=>k.Q b∨base (k.ρ r)=some b,k.H⟩
 have hbase:∀b,base (k.ρ r)=some b→Γ.N≤b∧b < w.heap.size:=fun b hb'=>(hI.sep r _ b hb hb').2
 have he:Ext k B.length w k' B.length w:=⟨Nat.le_refl _,fun b hb=>⟨Or.inl hb,rfl⟩,fun _ _=>⟨Nat.le_refl _,fun _=>rfl⟩⟩
 have hr0:∀v,Rep k B.length w (.row r g) v→aF k'.Q w (.sl sz is) v:=by
  intro v hv
  obtain⟨_,ev,_⟩:=dD (s:=⟨[],B⟩) hI hv hb
  obtain⟨xs,hown,hE'⟩:=hx
  rw[hln]at hown
  unfold aF
  rcases hown.2 with ⟨e1,e2⟩|⟨b,cap,cur,e1,e2,e3,e4,e5,_⟩
  ·exact⟨none,0,by rw[e2,ev];exact e1,by omega,Nat.zero_le _,fun hp=>absurd hp (by omega)⟩
  ·refine⟨some ⟨b,0,none⟩,cap,by rw[ev];exact e1,by omega,e5,fun _=>⟨b,0,rfl,Or.inr (by rw[e1];rfl),?_⟩⟩
   refine mJ he.q is xs b 0 hE' (fun j u hj=>?_)
   have:=hown.cells (g:=b) (by rw[e1];rfl) j u hj
   rw[Nat.zero_add]
   have hadd:(⟨b,0,none⟩:Addr).add j=⟨b,j,none⟩:=add0 b j
   rw[hadd]at this
   exact this
 have hat:∀q x,(B.set r (.dead g))[q]?=some x→(q=r∧x=.dead g)∨(q≠r∧B[q]?=some x):=by
  intro q x hx
  by_cases hq:q=r
  ·subst hq
   rw[List.getElem?_set_self hrl]at hx
   exact Or.inl ⟨rfl,(Option.some.inj hx).symm⟩
  ·rw[List.getElem?_set_ne (Ne.symm hq)]at hx
   exact Or.inr ⟨hq,hx⟩
 have hown:∀q x b,(B.set r (.dead g))[q]?=some x→own k' q x=some b→q≠r∧B[q]?=some x∧own k q x=some b:=by
  intro q x b hx hb'
  rcases hat q x hx with ⟨_,h2⟩|⟨h1,h2⟩
  ·subst h2;cases hb'
  ·exact⟨h1,h2,by cases x<;>exact hb'⟩
 refine⟨k',⟨rfl,rfl⟩,he,⟨hI.below,fun b hb'=>hb'.elim (hI.lt b) (fun h=>(hbase b h).2),hI.le,fun b hb'=>hb'.elim (hI.qs b) (fun h=>Or.inr (hbase b h).1),hI.rr,fun gg cs hc=>?_,fun q x hx=>?_,fun q x b hx hb'=>?_,fun q q' x x' b hx hx' h1 h2=>?_,⟨fun b hb'=>?_,by rw[List.length_set];exact hI.kp.ext.trans he⟩,fun q x b hx hb'=>?_,hI.hn⟩,hr0⟩
 ·rw[List.length_set];exact aU he _ _ (hI.gl gg cs hc)
 ·rw[List.length_set]
  rcases hat q x hx with ⟨h1,h2⟩|⟨h1,h2⟩
  ·subst h1;subst h2
   obtain⟨g1,_⟩:=hI.blk q _ hb
   exact g1
  ·exact dG (hI.blk q x h2) he rfl rfl (fun _ _=>rfl)
 ·obtain⟨h4,h2,h3⟩:=hown q x b hx hb'
  obtain⟨g1,g2,g3⟩:=hI.sep q x b h2 h3
  refine⟨fun hq=>hq.elim g1 (fun h=>?_),g2,g3⟩
  exact h4 (hI.inj q r x _ b h2 hb h3 h)
 ·obtain⟨_,h3,h4⟩:=hown q x b hx h1
  obtain⟨_,h5,h6⟩:=hown q' x' b hx' h2
  exact hI.inj q q' x x' b h3 h5 h4 h6
 ·obtain⟨g1,g2,g3⟩:=hI.kp.fr b hb'
  exact⟨g1,g2,fun hq=>hq.elim g3 (fun h=>hI.nf r _ b hb h hb')⟩
 ·obtain⟨_,h2,h3⟩:=hown q x b hx hb'
  exact hI.nf q x b h2 h3
theorem Dz {Γ:Ctx} {k:K} {B:List Blk} {w:World} (hI:Inv Γ k B w) {r g sz:Nat} {e:TypeId} {is:List IV} (hb:B[r]?=some (.row e sz g (is.map .imm))) :
  ∃k':K,(k'.ρ=k.ρ∧k'.G=k.G)∧Ext k B.length w k' B.length w∧Inv Γ k' (B.set r (.dead g)) w∧(∀v,Rep k B.length w (.row r g) v→aF k'.Q w (.sl sz is) v):=by
 obtain⟨_,xs,g2,g3⟩:=hI.blk r _ hb
 exact zK hI hb (List.length_map _) ⟨xs,g2,g3⟩
theorem Dy {get:Nat→Option Blk} {rd:List Nat} {es:List PV} {is:List IV} {ws:List (Nat×Blk)} (h:wW get rd es is ws) :
  es.length=is.length∧(∀q,bK ws q=true→∃(e:TypeId) (sz g:Nat) (js:List IV),get q=some (.row e sz g (js.map .imm))∧(q,Blk.dead g)∈ws∧q∈rd)∧
   ∀(k:K) (Γ:Ctx) (B:List Blk) (w:World),Inv Γ k B w→(∀q b,bK ws q=true→get q=some b→B[q]?=some b)→
    ∃k',(k'.ρ=k.ρ∧k'.G=k.G)∧Ext k B.length w k' B.length w∧Inv Γ k' (aY B ws) w∧∀sz xs,aL k B.length w sz es xs→aL k' B.length w sz (is.map .imm) xs:=by
 induction h with
 |nil=>exact⟨rfl,fun q hq=>by simp[bK]at hq,fun k Γ B w hI _=>⟨k,⟨rfl,rfl⟩,Ext.refl _ _ _,hI,fun sz xs h=>h⟩⟩
 |imm _ ih=>
  obtain⟨h1,h2,h3⟩:=ih
  refine⟨by simp[h1],h2,fun k Γ B w hI hg=>?_⟩
  obtain⟨k',h4,h5,h6,h7⟩:=h3 k Γ B w hI hg
  refine⟨k',h4,h5,h6,fun sz xs hE=>?_⟩
  simp only[List.map_cons]
  unfold aL at hE ⊢
  obtain⟨v,r,e1,e2,e3,e4,e5⟩:=hE
  exact⟨v,r,e1,e2,e3,aU h5 _ _ e4,h7 sz r e5⟩
 |@row q sz0 g e js es is ws hb hrd hk _ ih=>
  obtain⟨h1,h2,h3⟩:=ih
  refine⟨by simp[h1],fun q' hq'=>?_,fun k Γ B w hI hg=>?_⟩
  ·by_cases hqq:q'=q
   ·subst hqq
    exact⟨e,sz0,g,js,hb,List.mem_cons_self,by simpa using hrd⟩
   ·have:bK ws q'=true:=by
     simp only[bK,List.any_cons,Bool.or_eq_true,beq_iff_eq]at hq' ⊢
     rcases hq' with hq'|hq'
     ·exact absurd hq'.symm hqq
     ·exact hq'
    obtain⟨e,sz,g,js,h4,h5,h6⟩:=h2 q' this
    exact⟨e,sz,g,js,h4,List.mem_cons_of_mem _ h5,h6⟩
  ·have hBq:B[q]?=some (.row e sz0 g (js.map .imm)):=hg q _ (by simp[bK]) hb
   obtain⟨k1,g1,e1,i1,r1⟩:=Dz hI hBq
   have hl1:(B.set q (.dead g)).length=B.length:=List.length_set
   obtain⟨k',h4,h5,h6,h7⟩:=h3 k1 Γ (B.set q (.dead g)) w i1 (fun q' b hk' hgq=>by
    have hne:q'≠q:=fun e=>by subst e;rw[hk]at hk';cases hk'
    rw[List.getElem?_set_ne (Ne.symm hne)]
    refine hg q' b ?_ hgq
    simp only[bK,List.any_cons,Bool.or_eq_true]at hk' ⊢
    exact Or.inr hk')
   rw[hl1]at h5 h7
   refine⟨k',⟨h4.1.trans g1.1,h4.2.trans g1.2⟩,e1.trans h5,h6,fun sz xs hE=>?_⟩
   simp only[List.map_cons]
   unfold aL at hE ⊢
   obtain⟨v,r,e2,e3,e4,e5,e6⟩:=hE
   exact⟨v,r,e2,e3,e4,aB.2 (aQ h5.q _ _ (r1 v e5)),h7 sz r (bf e1 _ _ e6)⟩
theorem og {nest:Bool} {get:Nat→Option Blk} {rd:List Nat}:∀{ps:List PV} {M:List IV→List (Nat×Blk)→Prop},kE nest get rd ps M→
  ∃is ws,M is ws∧(∀q,bK ws q=true→∃(e:TypeId) (sz g:Nat) (es:List PV),get q=some (.row e sz g es)∧(q,Blk.dead g)∈ws∧q∈rd)∧
   ∀(k:K) (Γ:Ctx) (B:List Blk) (w:World) (vs:List Value),Inv Γ k B w→(∀q b,bK ws q=true→get q=some b→B[q]?=some b)→aI k B.length w ps vs→
    ∃k',Ext k B.length w k' B.length w∧Inv Γ k' (aY B ws) w∧aV k'.Q w is vs
 |[],M,h=>⟨[],[],h,fun q hq=>by simp[bK]at hq,fun k Γ B w vs hI _ hT=>⟨k,Ext.refl _ _ _,hI,by unfold aI at hT;exact hT⟩⟩
 |.imm i::r,M,h=>by
  obtain⟨is,ws,h1,h2,h3⟩:=og (ps:=r) h
  refine⟨i::is,ws,h1,fun q hq=>?_,fun k Γ B w vs hI hg hT=>?_⟩
  ·exact h2 q hq
  ·unfold aI at hT
   obtain⟨v,vr,e,h4,h5⟩:=hT
   obtain⟨k',h6,h7,h8⟩:=h3 k Γ B w vr hI hg h5
   exact⟨k',h6,h7,v,vr,e,aQ h6.q _ _ (aB.1 h4),h8⟩
 |.row q g::r,M,h=>by
  unfold kE at h
  split at h
  ·rename_i e sz g' es hb
   split at h
   ·rename_i hgg
    subst hgg
    cases nest with
    |true=>
     cases r with
     |cons _ _=>exact h.elim
     |nil=>
      obtain⟨is0,ws0,hD,hnk,hrd,h1⟩:=h
      obtain⟨d1,d2,d3⟩:=Dy hD
      refine⟨[.sl sz is0],(q,.dead g)::ws0,h1,fun q' hq'=>?_,fun k Γ B w vs hI hg hT=>?_⟩
      ·by_cases hqq:q'=q
       ·subst hqq
        exact⟨e,sz,g,es,hb,List.mem_cons_self,by simpa using hrd⟩
       ·have:bK ws0 q'=true:=by
         simp only[bK,List.any_cons,Bool.or_eq_true,beq_iff_eq]at hq' ⊢
         rcases hq' with hq'|hq'
         ·exact absurd hq'.symm hqq
         ·exact hq'
        obtain⟨e,sz,g,js,h4,h5,h6⟩:=d2 q' this
        exact⟨e,sz,g,_,h4,List.mem_cons_of_mem _ h5,h6⟩
      ·unfold aI at hT
       obtain⟨v,vr,ev,h4,h5⟩:=hT
       have hBq:B[q]?=some (.row e sz g es):=hg q _ (by simp[bK]) hb
       obtain⟨_,xs,g2,g3⟩:=hI.blk q _ hBq
       obtain⟨k1,c1,e1,i1,r1⟩:=d3 k Γ B w hI (fun q' b hk hgq=>hg q' b (by
        simp only[bK,List.any_cons,Bool.or_eq_true]at hk ⊢
        exact Or.inr hk) hgq)
       have hl1:(aY B ws0).length=B.length:=jK _ _
       have hnq:∀x∈ws0,x.1≠q:=fun x hx e=>by
        have:bK ws0 q=true:=by simp only[bK,List.any_eq_true,beq_iff_eq];exact⟨x,hx,e⟩
        rw[hnk]at this
        cases this
       have hBq1:(aY B ws0)[q]?=some (.row e sz g es):=by rw[nP ws0 B hnq];exact hBq
       obtain⟨k2,c2,e2,i2,r2⟩:=zK i1 hBq1 d1 ⟨xs,by rw[c1.1];exact g2,by rw[hl1];exact r1 sz xs g3⟩
       rw[hl1]at e2 r2
       have hset:aY B ((q,.dead g)::ws0)=(aY B ws0).set q (.dead g):=by
        have:∀(ws:List (Nat×Blk)) (B:List Blk),(∀x∈ws,x.1≠q)→aY (B.set q (.dead g)) ws=(aY B ws).set q (.dead g):=by
         intro ws
         induction ws with
         |nil=>intro B _;rfl
         |cons a ws ih=>
          intro B hne
          simp only[aY]
          rw[List.set_comm _ _ (Ne.symm (hne a List.mem_cons_self))]
          exact ih _ fun x hx=>hne x (List.mem_cons_of_mem _ hx)
        exact this ws0 B hnq
       rw[hset]
       refine⟨k2,e1.trans e2,i2,v,vr,ev,r2 v (aU e1 _ _ h4),?_⟩
       unfold aI at h5
       unfold aV
       exact h5
    |false=>
    obtain⟨is0,hes,h⟩:=h
    obtain⟨is,ws,h1,h2,h3⟩:=og (ps:=r) h
    split at h1
    ·rename_i hnk hrd
     refine⟨.sl sz is0::is,(q,.dead g)::ws,h1,fun q' hq'=>?_,fun k Γ B w vs hI hg hT=>?_⟩
     ·by_cases hqq:q'=q
      ·subst hqq
       exact⟨e,sz,g,es,hb,List.mem_cons_self,by simpa using hrd⟩
      ·have:bK ws q'=true:=by
        simp only[bK,List.any_cons,Bool.or_eq_true,beq_iff_eq]at hq' ⊢
        rcases hq' with hq'|hq'
        ·exact absurd hq'.symm hqq
        ·exact hq'
       obtain⟨e,sz,g,js,h4,h5,h6⟩:=h2 q' this
       exact⟨e,sz,g,js,h4,List.mem_cons_of_mem _ h5,h6⟩
     ·unfold aI at hT
      obtain⟨v,vr,ev,h4,h5⟩:=hT
      have hBq:B[q]?=some (.row e sz g (is0.map .imm)):=by rw[←hes];exact hg q _ (by simp[bK]) hb
      obtain⟨k1,_,e1,i1,r1⟩:=Dz hI hBq
      have hl1:(B.set q (.dead g)).length=B.length:=List.length_set
      obtain⟨k',h6,h7,h8⟩:=h3 k1 Γ (B.set q (.dead g)) w vr i1 (fun q' b hk hgq=>by
       have hne:q'≠q:=fun e=>by subst e;rw[hnk]at hk;cases hk
       rw[List.getElem?_set_ne (Ne.symm hne)]
       refine hg q' b ?_ hgq
       simp only[bK,List.any_cons,Bool.or_eq_true]at hk ⊢
       exact Or.inr hk) (by rw[hl1];exact bU e1 _ _ h5)
      rw[hl1]at h6
      exact⟨k',e1.trans h6,h7,v,vr,ev,aQ h6.q _ _ (r1 v h4),h8⟩
    ·exact h1.elim
   ·exact h.elim
  ·exact h.elim
 |.any::_,_,h=>by unfold kE at h;exact h.elim
 |.agg _::_,_,h=>by unfold kE at h;exact h.elim
 |.tup _::_,_,h=>by unfold kE at h;exact h.elim
 |.ptr _ _ _::_,_,h=>by unfold kE at h;exact h.elim
 |.eptr _ _ _ _ _::_,_,h=>by unfold kE at h;exact h.elim
 |.sub _ _ _ _ _::_,_,h=>by unfold kE at h;exact h.elim
 |.iptr _::_,_,h=>by unfold kE at h;exact h.elim
 |.ful _ _::_,_,h=>by unfold kE at h;exact h.elim
 |.clo _ _::_,_,h=>by unfold kE at h;exact h.elim
theorem zO {n:Nat} {G G':Nat→Nat} (h:∀i,i < n→G i=G' i):∀p:PV,cur n G p=true→cur n G' p=true:=by
 have key:∀{r g:Nat},(decide (r < n)&&(g == G r))=true→(decide (r < n)&&(g == G' r))=true:=fun {r g} hc=>by
  simp only[Bool.and_eq_true,decide_eq_true_eq,beq_iff_eq]at hc ⊢
  exact⟨hc.1,hc.2.trans (h r hc.1)⟩
 intro p
 refine PV.rec (motive_1:=fun p=>cur n G p=true→cur n G' p=true) (motive_2:=fun l=>dY n G l=true→dY n G' l=true) ?_ ?_ ?_ ?_ ?_ ?_ ?_ ?_ ?_ ?_ ?_ ?_ ?_ p
 ·intro _;unfold cur;rfl
 ·intro i _;unfold cur;rfl
 ·intro cs ih hc;unfold cur at hc ⊢;exact ih hc
 ·intro cs ih hc;unfold cur at hc ⊢;exact ih hc
 ·intro r g o hc;unfold cur at hc ⊢;exact key hc
 ·intro r g hc;unfold cur at hc ⊢;exact key hc
 ·intro r g a b c hc;unfold cur at hc ⊢;exact key hc
 ·intro r g a b c hc;unfold cur at hc ⊢;exact key hc
 ·intro cs _;unfold cur;rfl
 ·intro sz es _;unfold cur;rfl
 ·intro f cs ih hc;unfold cur at hc ⊢;exact ih hc
 ·intro _;unfold dY;rfl
 ·intro a l h1 h2 hc
  unfold dY at hc ⊢
  rw[Bool.and_eq_true]at hc ⊢
  exact⟨h1 hc.1,h2 hc.2⟩
theorem lJ {n:Nat} {G G':Nat→Nat} (h:∀i,i < n→G i=G' i):∀l:List PV,dY n G l=true→dY n G' l=true
 |[],_=>by unfold dY;rfl
 |a::l,hc=>by
  unfold dY at hc ⊢
  rw[Bool.and_eq_true]at hc ⊢
  exact⟨zO h a hc.1,lJ h l hc.2⟩
theorem oF (n:Nat) (G:Nat→Nat):∀is:List IV,dY n G (is.map .imm)=true
 |[]=>by simp[dY]
 |a::l=>by simp only[List.map_cons];unfold dY;rw[oF n G l];unfold cur;rfl
theorem yu (f g:Nat→Nat):∀is:List IV,upL f g (is.map .imm)=is.map .imm
 |[]=>by simp[upL]
 |a::l=>by simp only[List.map_cons];unfold upL;rw[yu f g l];unfold up;rfl
mutual
theorem Kn {get:Nat→Option Blk} {rs:List Nat}:∀{p q:PV},down get rs p=some q→up (fun i=>rs.getD i 0) (iV get rs) q=p∧cur rs.length (fun _=>1) q=true
 |.any,q,h=>by unfold down at h;cases h;simp[up,cur]
 |.imm i,q,h=>by unfold down at h;cases h;simp[up,cur]
 |.agg cs,q,h=>by
  unfold down at h
  split at h
  ·rename_i qs hq
   cases h
   obtain⟨h1,h2⟩:=jM hq
   unfold up cur
   exact⟨by rw[h1],h2⟩
  ·cases h
 |.tup _,q,h=>by unfold down at h;cases h
 |.ptr r g o,q,h=>by
  unfold down at h
  split at h
  ·rename_i b i hb hi
   split at h
   ·rename_i hg
    cases h
    obtain⟨j,hj,hr⟩:=gN hi
    rw[Nat.zero_add]at hj
    subst hj
    have e1:rs.getD i 0=r:=by rw[List.getD_eq_getElem?_getD,hr];rfl
    have e2:iV get rs i=g:=by unfold iV;rw[e1,hb];exact hg
    unfold up cur
    exact⟨by rw[e1,e2],by simp[(List.getElem?_eq_some_iff.1 hr).1]⟩
   ·cases h
  ·cases h
 |.row r g,q,h=>by
  unfold down at h
  split at h
  ·rename_i b i hb hi
   split at h
   ·rename_i hg
    cases h
    obtain⟨j,hj,hr⟩:=gN hi
    rw[Nat.zero_add]at hj
    subst hj
    have e1:rs.getD i 0=r:=by rw[List.getD_eq_getElem?_getD,hr];rfl
    have e2:iV get rs i=g:=by unfold iV;rw[e1,hb];exact hg
    unfold up cur
    exact⟨by rw[e1,e2],by simp[(List.getElem?_eq_some_iff.1 hr).1]⟩
   ·cases h
  ·cases h
 |.eptr r g sz jj o,q,h=>by
  unfold down at h
  split at h
  ·rename_i b i hb hi
   split at h
   ·rename_i hg
    cases h
    obtain⟨j,hj,hr⟩:=gN hi
    rw[Nat.zero_add]at hj
    subst hj
    have e1:rs.getD i 0=r:=by rw[List.getD_eq_getElem?_getD,hr];rfl
    have e2:iV get rs i=g:=by unfold iV;rw[e1,hb];exact hg
    unfold up cur
    exact⟨by rw[e1,e2],by simp[(List.getElem?_eq_some_iff.1 hr).1]⟩
   ·cases h
  ·cases h
 |.sub r g sz jj o,q,h=>by
  unfold down at h
  split at h
  ·rename_i b i hb hi
   split at h
   ·rename_i hg
    cases h
    obtain⟨j,hj,hr⟩:=gN hi
    rw[Nat.zero_add]at hj
    subst hj
    have e1:rs.getD i 0=r:=by rw[List.getD_eq_getElem?_getD,hr];rfl
    have e2:iV get rs i=g:=by unfold iV;rw[e1,hb];exact hg
    unfold up cur
    exact⟨by rw[e1,e2],by simp[(List.getElem?_eq_some_iff.1 hr).1]⟩
   ·cases h
  ·cases h
 |.iptr cs,q,h=>by unfold down at h;cases h;simp[up,cur]
 |.ful _ _,q,h=>by unfold down at h;cases h;simp[up,cur]
 |.clo f cs,q,h=>by
  unfold down at h
  split at h
  ·rename_i qs hq
   cases h
   obtain⟨h1,h2⟩:=jM hq
   unfold up cur
   exact⟨by rw[h1],h2⟩
  ·cases h
theorem jM {get:Nat→Option Blk} {rs:List Nat}:∀{ps qs:List PV},tO get rs ps=some qs→upL (fun i=>rs.getD i 0) (iV get rs) qs=ps∧dY rs.length (fun _=>1) qs=true
 |[],qs,h=>by unfold tO at h;cases h;simp[upL,dY]
 |c::cs,qs,h=>by
  unfold tO at h
  split at h
  ·rename_i q qs' hq hqs
   cases h
   obtain⟨h1,h2⟩:=Kn hq
   obtain⟨h3,h4⟩:=jM hqs
   unfold upL dY
   exact⟨by rw[h1,h3],by rw[h2,h4];rfl⟩
  ·cases h
end
theorem iq {get:Nat→Option Blk} {rs:List Nat}:∀{l:List Nat} {M:List CBk→Prop},wm get rs l M→∃Bs,M Bs∧Bs.length=l.length∧(∀i b,Bs[i]?=some b→b.gen=1∧(Ea rs.length (fun _=>1) b.blk=true)∧∃x,get (l.getD i 0)=some x∧upB (fun i=>rs.getD i 0) (iV get rs) (gen x) b.blk=x)
 |[],M,h=>⟨[],h,rfl,fun i b hb=>by simp at hb⟩
 |r::l,M,h=>by
  unfold wm at h
  split at h
  ·rename_i g cs t hb
   split at h
   ·rename_i qs hq
    obtain⟨Bs,h1,h2,h3⟩:=iq h
    obtain⟨h4,h5⟩:=jM hq
    refine⟨_,h1,by simp[h2],fun i b hb'=>?_⟩
    cases i with
    |zero=>
     simp only[List.getElem?_cons_zero,Option.some.injEq]at hb'
     subst hb'
     exact⟨rfl,h5,_,hb,by show Blk.box g (upL _ _ qs) t=_;rw[h4]⟩
    |succ i=>simpa using h3 i b (by simpa using hb')
   ·exact h.elim
  ·rename_i e sz g es hb
   obtain⟨is,he,h⟩:=h
   obtain⟨Bs,h1,h2,h3⟩:=iq h
   refine⟨_,h1,by simp[h2],fun i b hb'=>?_⟩
   cases i with
   |zero=>
    simp only[List.getElem?_cons_zero,Option.some.injEq]at hb'
    subst hb'
    exact⟨rfl,oF _ _ _,_,hb,by show Blk.row e sz g (upL _ _ (is.map .imm))=_;rw[yu,he]⟩
   |succ i=>simpa using h3 i b (by simpa using hb')
  ·rename_i g hb
   obtain⟨Bs,h1,h2,h3⟩:=iq h
   refine⟨_,h1,by simp[h2],fun i b hb'=>?_⟩
   cases i with
   |zero=>
    simp only[List.getElem?_cons_zero,Option.some.injEq]at hb'
    subst hb'
    exact⟨rfl,rfl,_,hb,rfl⟩
   |succ i=>simpa using h3 i b (by simpa using hb')
  ·rename_i kk g ps hb
   split at h
   ·rename_i hro
    obtain⟨Bs,h1,h2,h3⟩:=iq h
    refine⟨_,h1,by simp[h2],fun i b hb'=>?_⟩
    cases i with
    |zero=>
     simp only[List.getElem?_cons_zero,Option.some.injEq]at hb'
     subst hb'
     exact⟨rfl,by show (!xS kk)=true;rw[hro];rfl,_,hb,rfl⟩
    |succ i=>simpa using h3 i b (by simpa using hb')
   ·exact h.elim
  ·exact h.elim
theorem qG:∀(Bs:List CBk) (i:Nat),iL (Bs.map CBk.blk) i=qK Bs i
 |[],i=>by simp[iL,qK]
 |b::l,0=>by cases b<;>simp[iL,qK,CBk.blk,CBk.gen,gen]
 |b::l,i+1=>by
  have:=qG l i
  unfold iL at this
  simp only[iL,List.map_cons,List.getElem?_cons_succ,qK]
  exact this
theorem oG {n:Nat} {G:Nat→Nat}:∀{Bs:List CBk},uO n G Bs=true→(Bs.map CBk.blk).all (Ea n G)=true
 |[],_=>rfl
 |.box g cs t::l,h=>by
  unfold uO at h
  rw[Bool.and_eq_true]at h
  simp only[List.map_cons,List.all_cons,Bool.and_eq_true]
  exact⟨h.1,oG h.2⟩
 |.row e sz g is::l,h=>by
  unfold uO at h
  simp only[List.map_cons,List.all_cons,Bool.and_eq_true]
  exact⟨oF _ _ _,oG h⟩
 |.dead g::l,h=>by
  unfold uO at h
  simp only[List.map_cons,List.all_cons,Bool.and_eq_true]
  exact⟨rfl,oG h⟩
 |.map kk g ps::l,h=>by
  unfold uO at h
  rw[Bool.and_eq_true]at h
  simp only[List.map_cons,List.all_cons,Bool.and_eq_true]
  exact⟨h.1,oG h.2⟩
 |.nest e sz g es::l,h=>by
  unfold uO at h
  rw[Bool.and_eq_true]at h
  simp only[List.map_cons,List.all_cons,Bool.and_eq_true]
  exact⟨h.1,oG h.2⟩
theorem R5 (f g:Nat→Nat) (G:Nat) (b:CBk):upC f g G b=upB f g G b.blk:=by
 cases b with
 |dead _=>rfl
 |box _ cs t=>rfl
 |row e sz _ is=>show Blk.row e sz G (is.map .imm)=Blk.row e sz G (upL f g (is.map .imm));rw[yu]
 |map kk _ ps=>rfl
 |nest e sz _ es=>rfl
theorem Je (f g:Nat→Nat):∀(Bs:List CBk) (k i:Nat),(E5 f g k Bs)[i]?=(Bs[i]?).map fun b=>(f (k+i),upC f g (g (k+i)) b)
 |[],_,_=>by simp[E5]
 |b::l,k,0=>by simp[E5]
 |b::l,k,i+1=>by
  unfold E5
  rw[List.getElem?_cons_succ,Je f g l (k+1) i,List.getElem?_cons_succ,show k+1+i=k+(i+1) by omega]
theorem QL {rs:List Nat} {g:Nat→Nat} {Bs:List CBk} (hl:Bs.length=rs.length):E5 (fun i=>rs.getD i 0) g 0 Bs=xG rs (fun i=>rs.getD i 0) g (Bs.map CBk.blk):=by
 apply List.ext_getElem?
 intro i
 rw[Je,Nat.zero_add]
 unfold xG
 rw[List.getElem?_map]
 by_cases hi:i < rs.length
 ·have h1:Bs[i]?=some Bs[i]:=List.getElem?_eq_getElem (by omega)
  rw[List.getElem?_range hi,h1]
  simp only[Option.map_some]
  rw[R5,List.getD_eq_getElem?_getD,List.getD_eq_getElem?_getD,List.getElem?_map,h1]
  rfl
 ·rw[List.getElem?_eq_none (by omega:Bs.length≤i),List.getElem?_eq_none (by simp;omega)]
  rfl
theorem EH:∀{l:List Nat},nodupB l=true→l.Nodup
 |[],_=>List.nodup_nil
 |r::l,h=>by
  unfold nodupB at h
  rw[Bool.and_eq_true]at h
  rw[List.nodup_cons]
  exact⟨by simpa using h.1,EH h.2⟩
def uM (P:Program) (X:Env) (f:FuncId) (args:List IV) (e:TypeId) (sz:Nat) (is:List IV):Prop:=∃args',aA args args'∧PCR P X f args' e sz is
theorem uM.of {P:Program} {X:Env} {f:FuncId} {args:List IV} {e:TypeId} {sz:Nat} {is:List IV} (h:PCR P X f args e sz is):uM P X f args e sz is:=⟨args,aA.refl _,h⟩
def pG (P:Program) (X:Env):CT:=(PCw P X,fun f args Bs res Bs'=>PCB P X f args (Bs.map CBk.blk) res (Bs'.map CBk.blk),uM P X)
def Sound (P:Program) (Γ:Ctx) (o:Oper) (id:Nat) (ev:Operand→PV) (get:Nat→Option Blk) (rd:List Nat) (K:PV→List (Nat×Blk)→Prop):Prop:=
 ∃(c:List Orc) (out:Out),(iN o.op=true→∃x,c=[x]∧x.reads=rd++[id])∧(iN o.op=false→c=[])∧(∀rest,ak P Γ.eqT o id ev get (c++rest)=some out)∧(∀ob,out.ob=some ob→gq P Γ ob)∧K out.v out.ws
theorem Plain.sound {P:Program} {Γ:Ctx} {o:Oper} {id:Nat} {ev:Operand→PV} {get:Nat→Option Blk} {rd:List Nat} {K:PV→List (Nat×Blk)→Prop} (h:Plain P Γ.eqT o id ev get K) (hc:iN o.op=false):Sound P Γ o id ev get rd K:=by
 obtain⟨v,ws,h1,h2⟩:=h
 exact⟨[],⟨v,ws,none⟩,fun h=>(by rw[hc]at h;cases h),fun _=>rfl,fun rest=>h1 _,fun ob h=>(by cases h),h2⟩
theorem DZ {P:Program} {Γ:Ctx} {T:Tb} (hT:∀t d,T.td t=some d→aJ P t=some d) (hE:T.eq=Γ.eqT) {o:Oper} {id:Nat} {ev:Operand→PV} {get:Nat→Option Blk} {rd:List Nat} {K:PV→List (Nat×Blk)→Prop}
  (h:aN T (pG P Γ.X) o.op id ev get rd K):Sound P Γ o id ev get rd K:=by
 cases ho:o.op with
 |move x=>
  rw[ho]at h;unfold aN at h
  exact Plain.sound ⟨_,_,fun cr=>by unfold ak;simp only[ho];rfl,h⟩ (by rw[ho];rfl)
 |assign x=>
  rw[ho]at h;unfold aN at h
  exact Plain.sound ⟨_,_,fun cr=>by unfold ak;simp only[ho];rfl,h⟩ (by rw[ho];rfl)
 |pick c a b=>
  rw[ho]at h;unfold aN at h;simp only at h
  split at h
  ·rename_i t hc
   cases t with
   |true=>exact Plain.sound ⟨_,_,fun cr=>by unfold ak;simp only[ho,hc];rfl,h⟩ (by rw[ho];rfl)
   |false=>exact Plain.sound ⟨_,_,fun cr=>by unfold ak;simp only[ho,hc];rfl,h⟩ (by rw[ho];rfl)
  ·exact h.elim
 |alloc t=>exact (R7 (C:=pG P Γ.X) hT ho h).sound (by rw[ho];rfl)
 |box t x=>
  rw[ho]at h;unfold aN at h;simp only at h
  split at h
  ·rename_i hc hg
   exact Plain.sound ⟨_,_,fun cr=>by unfold ak;simp only[ho,hc,hg],h⟩ (by rw[ho];rfl)
  ·exact h.elim
 |load t x=>exact (Pz hT hE ho h).sound (by rw[ho];rfl)
 |store t x y=>exact (Od hT hE ho h).sound (by rw[ho];rfl)
 |nilCheck x=>
  rw[ho]at h;unfold aN at h;simp only at h
  split at h
  ·rename_i hx
   split at h
   ·rename_i hb
    split at h
    ·rename_i hg
     exact Plain.sound ⟨_,_,fun cr=>by unfold ak;simp only[ho,hx,hb];rw[if_pos hg];rfl,h⟩ (by rw[ho];rfl)
    ·exact h.elim
   ·exact h.elim
  ·rename_i hx
   exact Plain.sound ⟨_,_,fun cr=>by unfold ak;simp only[ho,hx];rfl,h⟩ (by rw[ho];rfl)
  ·rename_i hx
   exact Plain.sound ⟨_,_,fun cr=>by unfold ak;simp only[ho,hx];rfl,h⟩ (by rw[ho];rfl)
  ·rename_i hx
   exact Plain.sound ⟨_,_,fun cr=>by unfold ak;simp only[ho,hx];rfl,h⟩ (by rw[ho];rfl)
  ·exact h.elim
 |binOp op t x y ty=>exact (R6 hT hE ho h).sound (by rw[ho];rfl)
 |unOp op t x=>
  rw[ho]at h;unfold aN at h;simp only at h
  split at h
  ·rename_i b hx
   cases b with
   |true=>exact Plain.sound ⟨_,_,fun cr=>by unfold ak;simp only[ho,hx];rfl,h⟩ (by rw[ho];rfl)
   |false=>exact Plain.sound ⟨_,_,fun cr=>by unfold ak;simp only[ho,hx];rfl,h⟩ (by rw[ho];rfl)
  ·rename_i hx
   exact Plain.sound ⟨_,_,fun cr=>by unfold ak;simp only[ho,hx];rfl,gP (K:=fun z=>K (.imm (.int _ z)) []) h⟩ (by rw[ho];rfl)
  ·exact h.elim
 |fieldAddr t x f=>exact (BS hT hE ho h).sound (by rw[ho];rfl)
 |field t x f=>exact (M8 hT hE ho h).sound (by rw[ho];rfl)
 |indexAddr t x ix=>exact (CB hT hE ho h).sound (by rw[ho];rfl)
 |index t x ix=>exact (O1 hT hE ho h).sound (by rw[ho];rfl)
 |extract x i=>
  rw[ho]at h;unfold aN at h;simp only at h
  split at h
  ·rename_i cs hx
   split at h
   ·rename_i p hp
    exact Plain.sound ⟨_,_,fun cr=>by unfold ak;simp only[ho,hx,hp];rfl,h⟩ (by rw[ho];rfl)
   ·exact h.elim
  ·exact h.elim
 |build t parts=>exact (NA hT hE ho h).sound (by rw[ho];rfl)
 |buildSlice t n parts=>exact (yK hT hE ho h).sound (by rw[ho];rfl)
 |slice t x lo hi mx=>
  cases mx with
  |none=>exact (LW hT hE ho h).sound (by rw[ho];rfl)
  |some m=>
   cases hi with
   |none=>rw[ho]at h;unfold aN at h;exact h.elim
   |some y=>exact (LM hT hE ho h).sound (by rw[ho];rfl)
 |convert t u x=>exact (I5 hT hE ho h).sound (by rw[ho];rfl)
 |makeSlice t l c=>exact (BI hT hE ho h).sound (by rw[ho];rfl)
 |makeMap t hint=>
  cases hint with
  |none=>exact (IK hT hE ho h).sound (by rw[ho];rfl)
  |some _=>rw[ho]at h;unfold aN at h;exact h.elim
 |lookup t m x ok=>exact (Kw hT hE ho h).sound (by rw[ho];rfl)
 |mapUpdate t m x y=>exact (Bd hT hE ho h).sound (by rw[ho];rfl)
 |insert t m x y=>exact (KY hT hE ho h).sound (by rw[ho];rfl)
 |range t x=>exact (OV hT hE ho h).sound (by rw[ho];rfl)
 |entry x=>exact (Ot hT hE ho h).sound (by rw[ho];rfl)
 |makeFunc fn first caps=>
  cases fn with
  |func f=>
   rw[ho]at h;unfold aN at h;simp only at h
   split at h
   ·rename_i hz
    exact Plain.sound ⟨_,_,fun cr=>by unfold ak;simp only[ho];rw[if_pos hz];rfl,h⟩ (by rw[ho];rfl)
   ·exact h.elim
  |_=>rw[ho]at h;unfold aN at h;exact h.elim
 |call c=>
  obtain⟨callee,args,ts⟩:=c
  cases callee with
  |value f=>
   have hc:iN o.op=true:=by rw[ho];rfl
   rw[ho]at h;unfold aN at h;simp only at h
   split at h
   ·rename_i fid cs hf
    have habs:∀(x:Orc) (rest:List Orc),ak P Γ.eqT o id ev get (x::rest)=some ⟨x.res,x.ws,some ⟨fid,args.toList.map ev++cs,x.reads.filterMap fun r=>(get r).map fun b=>(r,b),x.res,x.ws⟩⟩:=by
     intro x rest
     unfold ak
     simp only[ho]
     unfold fnP at hf
     split at hf
     ·rename_i f' he
      simp only[Option.some.injEq,Prod.mk.injEq]at hf
      obtain⟨rfl,rfl⟩:=hf
      simp only[he,List.append_nil]
     ·rename_i f' cs' he
      simp only[Option.some.injEq,Prod.mk.injEq]at hf
      obtain⟨rfl,rfl⟩:=hf
      simp only[he]
     ·cases hf
    split at h
    ·obtain⟨is,ws,h1,h2,h3⟩:=og h
     cases h1 with
     |mk res hC hK=>
       have hpc:=PCw.pc hC
       refine⟨[⟨rd++[id],IX res,ws⟩],_,fun _=>⟨_,rfl,rfl⟩,fun h=>(by rw[hc]at h;cases h),fun rest=>habs ⟨rd++[id],IX res,ws⟩ rest,?_,hK res rfl⟩
       intro ob hob
       simp only[Option.some.injEq]at hob
       subst hob
       refine⟨hpc.1,fun k B w vs hI hB hT=>?_⟩
       have hmem:∀q b,bK ws q=true→get q=some b→B[q]?=some b:=fun q b hq hg=>by
        refine hB q b ?_
        obtain⟨_,_,_,_,_,_,hrd⟩:=h2 q hq
        exact List.mem_filterMap.2 ⟨q,List.mem_append_left _ hrd,by rw[hg];rfl⟩
       obtain⟨k1,e1,i1,r1⟩:=h3 k Γ B w vs hI hmem hT
       refine (hpc.2 k1.Q w vs i1.lt (fun g cs hc=>bQ (k:=k1) (n:=(aY B ws).length) rfl (i1.gl g cs hc)) (by obtain⟨w1,h1,h2,h3⟩:=i1.rr;exact Γ.X.st w1 w h1 h3) r1).mono ?_
       rintro e w' ⟨v,Q',rfl,hb,hq,hq',hr⟩
       have hl:(aY B ws).length=B.length:=jK _ _
       have he:Ext k1 (aY B ws).length w ⟨k1.ρ,k1.G,Q',k1.H⟩ (aY B ws).length w':=⟨Nat.le_refl _,fun b hb'=>⟨hq b hb',hb.block b (i1.lt b hb')⟩,fun _ _=>⟨Nat.le_refl _,fun _=>rfl⟩⟩
       have he':Ext k1 B.length w ⟨k1.ρ,k1.G,Q',k1.H⟩ B.length w':=by rw[hl]at he;exact he
       refine⟨v,⟨k1.ρ,k1.G,Q',k1.H⟩,rfl,e1.trans he',⟨i1.below.trans (hb.mono i1.le),fun b hb'=>(hq' b hb').2,Nat.le_trans i1.le hb.size,fun b hb'=>(hq' b hb').1.elim (fun h4=>i1.qs b h4) (fun h4=>Or.inr (Nat.le_trans i1.le h4)),i1.rr.below (hb.mono i1.le),fun g cs hc=>aU he _ _ (i1.gl g cs hc),fun r x hx=>?_,fun r x b hx hb'=>?_,fun r r' x x' b hx hx' h1 h2=>i1.inj r r' x x' b hx hx' (by cases x<;>exact h1) (by cases x'<;>exact h2),⟨fun b hb'=>?_,by have h9:=i1.kp.ext.trans he;exact h9⟩,fun r x b hx hb'=>i1.nf r x b hx (by cases x<;>exact hb'),i1.hn⟩,Jm hr⟩
       ·exact dG (i1.blk r x hx) he rfl rfl (fun b hb'=>hb.block b (i1.sep r x b hx hb').2.2) (fun _ b _ _ hb'=>⟨hb',hb.block b (i1.kp.fr b (fK hb')).1⟩)
       ·have hb'':own k1 r x=some b:=by cases x<;>exact hb'
        obtain⟨h1,h2,h3⟩:=i1.sep r x b hx hb''
        exact⟨fun hc=>(hq' b hc).1.elim (fun h4=>h1 h4) (fun h4=>absurd h3 (by omega)),h2,Nat.lt_of_lt_of_le h3 hb.size⟩
       ·obtain⟨g1,g2,g3⟩:=i1.kp.fr b hb'
        exact⟨Nat.lt_of_lt_of_le g1 hb.size,(hb.block b g1).trans g2,fun hc=>(hq' b hc).1.elim (fun h4=>g3 h4) (fun h4=>absurd g1 (by omega))⟩
     |row e sz js hC hK=>
       obtain⟨args',hle,hpc⟩:=hC
       have hK:=hK js rfl
       split at hK
       ·rename_i g hgid
        refine⟨[⟨rd++[id],.row id (g+1),ws++[(id,Blk.row e sz (g+1) (js.map PV.imm))]⟩],_,fun _=>⟨_,rfl,rfl⟩,fun h=>(by rw[hc]at h;cases h),fun rest=>habs ⟨rd++[id],.row id (g+1),ws++[(id,Blk.row e sz (g+1) (js.map PV.imm))]⟩ rest,?_,hK _ rfl⟩
        intro ob hob
        simp only[Option.some.injEq]at hob
        subst hob
        refine⟨hpc.1,fun k B w vs hI hB hT=>?_⟩
        have hmem:∀q b,bK ws q=true→get q=some b→B[q]?=some b:=fun q b hq hg=>by
         refine hB q b ?_
         obtain⟨_,_,_,_,_,_,hrd⟩:=h2 q hq
         exact List.mem_filterMap.2 ⟨q,List.mem_append_left _ hrd,by rw[hg];rfl⟩
        have hBid:B[id]?=some (.dead g):=hB id _ (List.mem_filterMap.2 ⟨id,List.mem_append_right _ List.mem_cons_self,by rw[hgid];rfl⟩)
        have hnid:∀q∈ws,q.1≠id:=fun q hq e=>by
         obtain⟨_,_,_,_,h5,_⟩:=h2 q.1 (by simp only[bK,List.any_eq_true,beq_iff_eq];exact⟨q,hq,rfl⟩)
         rw[e,hgid]at h5
         cases h5
        obtain⟨k1,e1,i1,r1⟩:=h3 k Γ B w vs hI hmem hT
        refine (hpc.2 k1.Q w vs i1.lt (fun g cs hc=>bQ (k:=k1) (n:=(aY B ws).length) rfl (i1.gl g cs hc)) (by obtain⟨w1,h1,h2,h3⟩:=i1.rr;exact Γ.X.st w1 w h1 h3) (hle.rep r1)).mono ?_
        rintro en w' ⟨v,Q',xs,rfl,hb,hq,hq',hrow,hrE,hbv⟩
        have hl:(aY B ws).length=B.length:=jK _ _
        have he:Ext k1 (aY B ws).length w ⟨k1.ρ,k1.G,Q',k1.H⟩ (aY B ws).length w':=⟨Nat.le_refl _,fun b hb'=>⟨hq b hb',hb.block b (i1.lt b hb')⟩,fun _ _=>⟨Nat.le_refl _,fun _=>rfl⟩⟩
        have i2:Inv Γ ⟨k1.ρ,k1.G,Q',k1.H⟩ (aY B ws) w':=by
         refine⟨i1.below.trans (hb.mono i1.le),fun b hb'=>(hq' b hb').2,Nat.le_trans i1.le hb.size,fun b hb'=>(hq' b hb').1.elim (fun h4=>i1.qs b h4) (fun h4=>Or.inr (Nat.le_trans i1.le h4)),i1.rr.below (hb.mono i1.le),fun g cs hc=>aU he _ _ (i1.gl g cs hc),fun r x hx=>?_,fun r x b hx hb'=>?_,fun r r' x x' b hx hx' h1 h2=>i1.inj r r' x x' b hx hx' (by cases x<;>exact h1) (by cases x'<;>exact h2),⟨fun b hb'=>?_,by have h9:=i1.kp.ext.trans he;exact h9⟩,fun r x b hx hb'=>i1.nf r x b hx (by cases x<;>exact hb'),i1.hn⟩
         ·exact dG (i1.blk r x hx) he rfl rfl (fun b hb'=>hb.block b (i1.sep r x b hx hb').2.2) (fun _ b _ _ hb'=>⟨hb',hb.block b (i1.kp.fr b (fK hb')).1⟩)
         ·have hb'':own k1 r x=some b:=by cases x<;>exact hb'
          obtain⟨h1,h2,h3⟩:=i1.sep r x b hx hb''
          exact⟨fun hc=>(hq' b hc).1.elim (fun h4=>h1 h4) (fun h4=>absurd h3 (by omega)),h2,Nat.lt_of_lt_of_le h3 hb.size⟩
         ·obtain⟨g1,g2,g3⟩:=i1.kp.fr b hb'
          exact⟨Nat.lt_of_lt_of_le g1 hb.size,(hb.block b g1).trans g2,fun hc=>(hq' b hc).1.elim (fun h4=>g3 h4) (fun h4=>absurd g1 (by omega))⟩
        have hge:∀b,base v=some b→w.heap.size≤b:=fun b hbv'=>by
         rcases hrow.2 with ⟨h1,_⟩|⟨b',cap,cur,h1,h2,_⟩
         ·rw[h1]at hbv';cases hbv'
         ·rw[h1]at hbv'
          simp only[base,Option.some.injEq]at hbv'
          omega
        obtain⟨k3,e3,i3,r3⟩:=LB i2 (id:=id) (g:=g) (by rw[nP ws B hnid];exact hBid) (Cy hrow i1.le) (oQ (k:=⟨fun _=>undef,fun _=>0,Q',fun _=>none⟩) (k':=⟨k1.ρ,k1.G,Q',k1.H⟩) (n:=0) rfl hrE) (fun b hb'=>⟨(hbv b hb').1,(hbv b hb').2,fun hF=>by have:=(i1.kp.fr b hF).1;have:=hge b hb';omega,fun r x hx ho=>by
         have ho':own k1 r x=some b:=by cases x<;>exact ho
         have:=(i1.sep r x b hx ho').2.2
         have:=hge b hb'
         omega⟩)
        have hset:aY B (ws++[(id,.row e sz (g+1) (js.map .imm))])=(aY B ws).set id (.row e sz (g+1) (js.map .imm)):=by
         have:∀(ws:List (Nat×Blk)) (B:List Blk) (q:Nat×Blk),aY B (ws++[q])=(aY B ws).set q.1 q.2:=by
          intro ws
          induction ws with
          |nil=>intro B q;rfl
          |cons a ws ih=>intro B q;simp only[List.cons_append,aY];exact ih _ q
         exact this ws B _
        have he':Ext k B.length w k3 B.length w':=by
         have h9:=he.trans e3
         rw[hl]at h9
         exact e1.trans h9
        rw[hset]
        rw[hl]at r3
        exact⟨v,k3,rfl,he',i3,r3⟩
       ·exact hK.elim
    ·split at h
     ·rename_i ps hps
      obtain⟨Bs,h1,hlen,hB⟩:=iq h
      obtain⟨res,Bs',hC,h1⟩:=h1
      split at h1
      ·rename_i hok
       obtain⟨hnd,hl',hcr,hcb'⟩:=hok
       obtain⟨hup,hcur⟩:=jM hps
       have hgen1:∀i,i < rd.length→iL (Bs.map CBk.blk) i=1:=fun i hi=>by
        have hx:Bs[i]?=some Bs[i]:=List.getElem?_eq_getElem (by omega)
        have:(Bs.map CBk.blk)[i]?=some (Bs[i]).blk:=by rw[List.getElem?_map,hx];rfl
        rw[BJ this]
        have h9:=(hB i _ hx).1
        revert h9
        cases Bs[i]<;>(intro h9;exact h9)
       have hml:(Bs.map CBk.blk).length=rd.length:=by rw[List.length_map,hlen]
       have hfc:=PCB.OX hC rd (iV get rd) (LV get rd Bs') (EH hnd) hml.symm
        (by rw[hml];exact lJ (fun i hi=>(hgen1 i hi).symm) _ hcur)
        (by
         rw[hml]
         refine List.all_eq_true.2 fun x hx=>?_
         obtain⟨i,hi⟩:=List.mem_iff_getElem?.1 hx
         rw[List.getElem?_map]at hi
         cases hb:Bs[i]? with
         |none=>rw[hb]at hi;cases hi
         |some b=>
          rw[hb]at hi
          simp only[Option.map_some,Option.some.injEq]at hi
          subst hi
          have h9:=(hB i b hb).2.1
          cases b with
          |box g cs t=>exact lJ (fun i hi=>(hgen1 i hi).symm) _ h9
          |row e sz g is=>exact oF _ _ _
          |dead g=>rfl
          |map kk g ps=>exact h9
          |nest e sz g es=>exact lJ (fun i hi=>(hgen1 i hi).symm) _ h9)
        (by rw[hml];exact zO (fun i _=>(qG Bs' i).symm) _ hcr)
        (by
         rw[hml]
         have h9:=oG hcb'
         have:qK Bs'=iL (Bs'.map CBk.blk):=funext fun i=>(qG Bs' i).symm
         rw[←this]
         exact h9)
        (fun i hi=>by
         rw[hml]at hi
         rw[hgen1 i hi,qG]
         unfold LV
         split
         ·rename_i he _;exact⟨Nat.le_refl _,fun _=>he⟩
         ·exact⟨by omega,fun e=>by omega⟩)
        (ors:=(rd++[id]).filterMap fun r=>(get r).map fun b=>(r,b))
        (fun i x hx=>by
         rw[List.getElem?_map]at hx
         cases hb:Bs[i]? with
         |none=>rw[hb]at hx;cases hx
         |some b=>
          rw[hb]at hx
          simp only[Option.map_some,Option.some.injEq]at hx
          subst hx
          obtain⟨_,_,y,hy,hu⟩:=hB i b hb
          have hi:i < rd.length:=by have:=(List.getElem?_eq_some_iff.1 hb).1;omega
          have hg:iV get rd i=gen y:=by unfold iV;rw[hy]
          refine List.mem_filterMap.2 ⟨rd.getD i 0,List.mem_append_left _ ?_,by rw[hy,hg,hu];rfl⟩
          rw[List.getD_eq_getElem?_getD,List.getElem?_eq_getElem hi]
          exact List.getElem_mem hi)
       rw[hup]at hfc
       refine⟨[⟨rd++[id],_,_⟩],_,fun _=>⟨_,rfl,rfl⟩,fun h=>(by rw[hc]at h;cases h),fun rest=>habs ⟨rd++[id],up (fun i=>rd.getD i 0) (LV get rd Bs') (qP res),E5 (fun i=>rd.getD i 0) (LV get rd Bs') 0 Bs'⟩ rest,?_,h1⟩
       intro ob hob
       simp only[Option.some.injEq]at hob
       subst hob
       rw[QL hl']
       exact hfc
      ·exact h1.elim
     ·exact h.elim
   ·exact h.elim
  |invoke r m=>rw[ho]at h;unfold aN at h;exact h.elim
  |builtin b=>
   cases b with
   |len=>exact (RN hT hE ho h).sound (by rw[ho];rfl)
   |append=>exact (Ku hT hE ho h).sound (by rw[ho];rfl)
   |delete=>exact (Lg hT hE ho h).sound (by rw[ho];rfl)
   |clear=>exact (Oq hT hE ho h).sound (by rw[ho];rfl)
   |unsafeSliceData=>exact (Cz hT hE ho h).sound (by rw[ho];rfl)
   |unsafeString=>exact (uP hT hE ho h).sound (by rw[ho];rfl)
   |copy=>exact (PZ hT hE ho h).sound (by rw[ho];rfl)
   |max=>
    rw[ho]at h;unfold aN at h;simp only at h
    split at h
    ·rename_i kk a k' b hx
     refine Plain.sound ⟨_,_,fun cr=>by unfold ak;simp only[ho,hx];rfl,h _ ?_⟩ (by rw[ho];rfl)
     split<;>omega
    ·exact h.elim
   |min=>
    rw[ho]at h;unfold aN at h;simp only at h
    split at h
    ·rename_i kk a k' b hx
     refine Plain.sound ⟨_,_,fun cr=>by unfold ak;simp only[ho,hx];rfl,h _ ?_⟩ (by rw[ho];rfl)
     split<;>omega
    ·exact h.elim
   |_=>rw[ho]at h;unfold aN at h;exact h.elim
 |_=>rw[ho]at h;unfold aN at h;exact h.elim
end Go.Pv
