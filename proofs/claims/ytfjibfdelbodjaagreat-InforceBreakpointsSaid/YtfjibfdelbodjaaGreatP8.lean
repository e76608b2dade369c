/-
  Plain values: a call all of whose arguments are known, reckoned by itself: through loops and calls, without a contract. Plain values: a call all of whose arguments are known: regions, code, the end of a call, the whole. Plain values: a call all of whose arguments are known: code, loops, the end of a call; the whole. Plain values: a call all of whose arguments are known: ranges over maps, in every order; the whole. Plain values: how structs of plain cells are compared, whatever the program.
-/
import Derived.Test.YtfjibfdelbodjaaGreatP7
import Derived.Laws.StructEq
namespace Go.Pv
open Go.RowKit (Below)
set_option linter.unusedSimpArgs false
set_option linter.unusedSectionVars false
noncomputable section
end
section dn
variable (F:Nat→Nat)
mutual
def dn:PV→PV
 |.any=>.any
 |.imm i=>.imm i
 |.agg cs=>.agg (dnL cs)
 |.tup cs=>.tup (dnL cs)
 |.ptr r g o=>.ptr (F r) g o
 |.row r g=>.row (F r) g
 |.eptr r g sz i o=>.eptr (F r) g sz i o
 |.sub r g sz i o=>.sub (F r) g sz i o
 |.iptr cs=>.iptr cs
 |.ful a b=>.ful a b
 |.clo f cs=>.clo f (dnL cs)
def dnL:List PV→List PV
 |[]=>[]
 |c::cs=>dn c::dnL cs
end
end dn
section okP
variable (rs:List Nat) (G:Nat→Nat)
mutual
def okP:PV→Bool
 |.any=>true
 |.imm _=>true
 |.agg cs=>okL cs
 |.tup cs=>okL cs
 |.ptr r g _=>rs.contains r&&g == G r
 |.row r g=>rs.contains r&&g == G r
 |.eptr r g _ _ _=>rs.contains r&&g == G r
 |.sub r g _ _ _=>rs.contains r&&g == G r
 |.iptr _=>true
 |.ful _ _=>true
 |.clo _ cs=>okL cs
def okL:List PV→Bool
 |[]=>true
 |c::cs=>okP c&&okL cs
end
end okP
def TL (rs:List Nat) (r:Nat):Nat:=(idxOf r rs 0).getD 0
section updn
variable {rs:List Nat} {G g:Nat→Nat} (hg:∀r,r∈rs→g (TL rs r)=G r)
include hg
end updn
end Go.Pv
namespace Go.Pv
open Go.RowKit (Below)
noncomputable section
set_option linter.unusedSimpArgs false
set_option linter.unusedSectionVars false
set_option linter.unusedVariables false in
section
end
abbrev CF:=FuncId→List PV→List Blk→(List PV→List Blk→Bool)→Bool
abbrev KR:=List PV→List Blk→List Sh→Bool
structure Good (X:Env) (eq:TypeId→Option (List CK)) (n0:Nat) (G0:Nat→Nat) (Γ:Ctx):Prop where
 x:Γ.X=X
 e:Γ.eqT=eq
 n:Γ.n0=n0
 g:∀r,r < n0→Γ.k0.G r=G0 r
def RV (P:Program) (X:Env) (cf:CF):Prop:=∀f args B K,cf f args B K=true→∃res B',PCB P X f args B res B'∧K res B'=true
section
variable {P:Program} {X:Env} {eq:TypeId→Option (List CK)} {n0:Nat} {G0:Nat→Nat} {S:Nat} {cf:CF} (hcf:RV P X cf)
include hcf
end
end
end Go.Pv
namespace Go.Pv
open Go.RowKit (Below)
noncomputable section
set_option linter.unusedSimpArgs false
set_option linter.unusedSectionVars false
theorem AWp.mono {P:Program} {Γ:Ctx} {c:Code} {s:St} {Q Q':Exit→St→Prop} (h:AWp P Γ c s Q) (hq:∀e s',Q e s'→Q' e s'):AWp P Γ c s Q':=fun hX a w hg=>
 wp_mono (h hX a w hg) fun e _ _ ⟨s',h2,h3⟩=>⟨s',hq e s' h2,h3⟩
section
variable (r g:Nat) (is:List IV)
end
section
variable {k k':K} {n:Nat} {w:World} {r g:Nat} {is:List IV} (he:Ext k n w k' n w) (hr:∀o v,Rep k n w (.ptr r g o) v→Rep k' n w (.iptr (is.drop o)) v)
include he hr
end
section
variable {P:Program} {X:Env} {eq:TypeId→Option (List CK)} {n0:Nat} {G0:Nat→Nat} {S:Nat} {cf:CF} (hm:P.follows .mixedOrders=true) (hcf:RV P X cf)
include hm hcf
end
section
variable (i j:Nat)
variable (h g':Nat)
end
def nmP:PV→PV
 |.clo f cs=>match iY cs with
  |some is=>.imm (.clo f is)
  |none=>.clo f cs
 |p=>p
section
variable {X:Env} {eq:TypeId→Option (List CK)} {n0:Nat} {G0:Nat→Nat}
theorem PO {k:K} {n:Nat} {w:World} {p:PV} {v:Value} (h:Rep k n w p v):Rep k n w (nmP p) v:=by
 unfold nmP
 split
 ·rename_i f cs
  split
  ·rename_i is hc
   exact aB.2 (JV (p:=.clo f cs) (show (iY cs).map (fun is=>IV.clo f is)=some (.clo f is) by rw[hc];rfl) h)
  ·exact h
 ·exact h
theorem JQ {k:K} {n:Nat} {w:World}:∀{E:List PV} {vs:List Value},aI k n w E vs→aI k n w (E.map nmP) vs
 |[],vs,h=>by simpa using h
 |p::E,vs,h=>by
  rw[List.map_cons]
  unfold aI at h ⊢
  obtain⟨v,r,e,h1,h2⟩:=h
  exact⟨v,r,e,PO h1,JQ h2⟩
theorem Weak.nm {Γ:Ctx} (E:List PV) (B:List Blk):Weak Γ ⟨E,B⟩ ⟨E.map nmP,B⟩:=by
 rintro a w ⟨hd,k,hI,hT⟩
 exact⟨hd,k,hI,JQ hT⟩
end
end
end Go.Pv
namespace Go.Pv
open Go.RowKit (Below)
noncomputable section
set_option linter.unusedSimpArgs false
set_option linter.unusedSectionVars false
section
variable {P:Program} {X:Env} {eq:TypeId→Option (List CK)} {n0:Nat} {G0:Nat→Nat} {S:Nat} {cf:CF} (hm:P.follows .mixedOrders=true) (hcf:RV P X cf)
include hcf
include hm
end
end
noncomputable section
theorem PCB.pc {P:Program} {X:Env} {f:FuncId} {args res:List IV} (h:PCB P X f (args.map .imm) [] (res.map .imm) []):PC P X f args res:=by
 refine⟨h.1,fun Q w vs hQ hgl hR hvs=>?_⟩
 let k:K:=⟨fun _=>undef,fun _=>0,Q,fun _=>none⟩
 let Γ:Ctx:=⟨w.heap.size,w,X,Q,fun _=>none,fun _=>False,w,k,0⟩
 have hI:Inv Γ k [] w:=⟨Below.refl _ _,hQ,Nat.le_refl _,fun b hb=>Or.inl hb,⟨w,hR,Nat.le_refl _,Below.refl _ _⟩,fun g cs hc=>bQ (k:=⟨fun _=>undef,fun _=>0,Q,fun _=>none⟩) (n:=0) rfl (hgl g cs hc),fun r x hx=>by simp at hx,fun r x b hx=>by simp at hx,fun r r' x x' b hx=>by simp at hx,⟨fun b hb=>(hb.elim (fun h=>h) (fun h=>h rfl):False).elim,Ext.refl _ _ _⟩,fun r x b hx=>by simp at hx,fun _ _ h=>by cases h⟩
 refine (h.2.2 Γ k w vs rfl hI (jw hvs)).mono ?_
 rintro e w' ⟨v,k',rfl,he,hI',hv⟩
 refine⟨v,fun b=>Q b∨(w.heap.size≤b∧b < w'.heap.size),rfl,hI'.below,fun b hb=>Or.inl hb,fun b hb=>?_,?_⟩
 ·rcases hb with hb|⟨h6,h7⟩
  ·exact⟨Or.inl hb,Nat.lt_of_lt_of_le (hQ b hb) hI'.below.size⟩
  ·exact⟨Or.inr h6,h7⟩
 ·have h5:jy k'.Q w' res v:=by
   match res,hv with
   |[],hv=>unfold qP Rep at hv;obtain⟨vs,e,hl⟩:=hv;exact⟨vs,e,oh (is:=[]) hl⟩
   |[i],hv=>exact aB.1 hv
   |i::j::is,hv=>unfold qP Rep at hv;obtain⟨vs,e,hl⟩:=hv;exact⟨vs,e,oh (is:=i::j::is) hl⟩
  refine uj (fun b hb=>⟨?_,rfl⟩) h5
  rcases hI'.qs b hb with hc|hc
  ·exact Or.inl hc
  ·exact Or.inr ⟨hc,hI'.lt b hb⟩
end
end Go.Pv
namespace Go.Pv
open Go.RowKit (Below)
set_option linter.unusedSimpArgs false
set_option linter.unusedSectionVars false
def xX (P:Program) (G:TypeId→Option (List CK)):Nat→List Field→Option (List CK)
 |_,[]=>some []
 |off,f::fs=>match G f.type,P.info? f.type,P.underlying f.type with
  | some ks, some i, some u => match decide (f.offset = off ∧ f.name ≠ "_" ∧ i.size = ks.length ∧ (rJ u = false → ks.length = 1)) with
   |true=>match xX P G (off+ks.length) fs with
    |some ls=>some (ks++ls)
    |none=>none
   |false=>none
  |_,_,_=>none
def qJ (P:Program):Nat→TypeId→Option (List CK)
 |0,_=>none
 |d+1,t=>match P.underlying t with
  |some (.int k)=>some [.int k]
  |some .string=>some [.str]
  |some .bool=>some [.bool]
  |some (.struct fs)=>match P.stoodInHeld t with
   |true=>none
   |false=>xX P (qJ P d) 0 fs.toList
  |_=>none
def TA (P:Program) (t:TypeId):Option (List CK):=match P.underlying t with
 |some (.struct _)=>match P.eqGuardType P.depth t with
  |true=>none
  |false=>qJ P 9 t
 |_=>none
section
variable {P:Program} {w:World} {Q:Nat→Prop}
theorem Hq {t:TypeId} {fs:Array Field} (h:P.underlying t=some (.struct fs)):P.underlying t=some (.struct (P.fieldsOf t))∧P.fieldsOf t=fs:=by
 have e:P.fieldsOf t=fs:=by unfold Program.fieldsOf;rw[h]
 exact⟨by rw[e];exact h,e⟩
def ER (u:TypeDesc) (xs:List Value):Value:=if rJ u then .agg xs.toArray else xs.headD undef
theorem fU:∀{k1 k2:List CK} {is:List IV},aG is (k1++k2)=true→∃i1 i2,is=i1++i2∧aG i1 k1=true∧aG i2 k2=true∧i1.length=k1.length
 |[],k2,is,h=>⟨[],is,rfl,by unfold aG;rfl,h,rfl⟩
 |.int k::k1,k2,is,h=>by
  cases is with
  |nil=>simp[aG]at h
  |cons i is=>
   cases i<;>simp only[List.cons_append,aG,Bool.and_eq_true]at h<;>first|(cases h;done)|skip
   obtain⟨h1,h2⟩:=h
   obtain⟨i1,i2,rfl,e1,e2,e3⟩:=fU h2
   exact⟨_::i1,i2,rfl,by unfold aG;rw[h1,e1];rfl,e2,by simp[e3]⟩
 |.str::k1,k2,is,h=>by
  cases is with
  |nil=>simp[aG]at h
  |cons i is=>
   cases i<;>simp only[List.cons_append,aG]at h<;>first|(cases h;done)|skip
   obtain⟨i1,i2,rfl,e1,e2,e3⟩:=fU h
   exact⟨_::i1,i2,rfl,by unfold aG;rw[e1],e2,by simp[e3]⟩
 |.bool::k1,k2,is,h=>by
  cases is with
  |nil=>simp[aG]at h
  |cons i is=>
   cases i<;>simp only[List.cons_append,aG]at h<;>first|(cases h;done)|skip
   obtain⟨i1,i2,rfl,e1,e2,e3⟩:=fU h
   exact⟨_::i1,i2,rfl,by unfold aG;rw[e1],e2,by simp[e3]⟩
theorem l9:∀{i1 i2:List IV} {xs:List Value},aO Q w (i1++i2) xs→∃s1 s2,xs=s1++s2∧aO Q w i1 s1∧aO Q w i2 s2∧s1.length=i1.length
 |[],i2,xs,h=>⟨[],xs,rfl,by unfold aO;rfl,h,rfl⟩
 |i::i1,i2,xs,h=>by
  rw[List.cons_append]at h
  unfold aO at h
  obtain⟨v,r,rfl,h1,h2,h3⟩:=h
  obtain⟨s1,s2,rfl,e1,e2,e3⟩:=l9 h3
  exact⟨v::s1,s2,rfl,by unfold aO;exact⟨v,s1,rfl,h1,h2,e1⟩,e2,by simp[e3]⟩
theorem uX:∀{k1:List CK} {i1 j1 i2 j2:List IV},aG i1 k1=true→aG j1 k1=true→eqC (i1++i2) (j1++j2)=(eqC i1 j1&&eqC i2 j2)
 |[],i1,j1,i2,j2,h1,h2=>by
  cases i1 with
  |cons a l=>cases a<;>simp[aG]at h1
  |nil=>
   cases j1 with
   |cons a l=>cases a<;>simp[aG]at h2
   |nil=>simp[eqC]
 |.int k::k1,i1,j1,i2,j2,h1,h2=>by
  cases i1 with
  |nil=>simp[aG]at h1
  |cons a l=>
   cases j1 with
   |nil=>simp[aG]at h2
   |cons b m=>
    cases a<;>simp only[aG,Bool.and_eq_true]at h1<;>first|(cases h1;done)|skip
    cases b<;>simp only[aG,Bool.and_eq_true]at h2<;>first|(cases h2;done)|skip
    simp only[List.cons_append,eqC]
    rw[uX h1.2 h2.2,Bool.and_assoc]
 |.str::k1,i1,j1,i2,j2,h1,h2=>by
  cases i1 with
  |nil=>simp[aG]at h1
  |cons a l=>
   cases j1 with
   |nil=>simp[aG]at h2
   |cons b m=>
    cases a<;>simp only[aG]at h1<;>first|(cases h1;done)|skip
    cases b<;>simp only[aG]at h2<;>first|(cases h2;done)|skip
    simp only[List.cons_append,eqC]
    rw[uX h1 h2,Bool.and_assoc]
 |.bool::k1,i1,j1,i2,j2,h1,h2=>by
  cases i1 with
  |nil=>simp[aG]at h1
  |cons a l=>
   cases j1 with
   |nil=>simp[aG]at h2
   |cons b m=>
    cases a<;>simp only[aG]at h1<;>first|(cases h1;done)|skip
    cases b<;>simp only[aG]at h2<;>first|(cases h2;done)|skip
    simp only[List.cons_append,eqC]
    rw[uX h1 h2,Bool.and_assoc]
theorem sU {ty:TypeId} {off:Nat} {u:TypeDesc} {i:TypeInfo} {pre seg post:List Value} (hu:P.underlying ty=some u) (hi:P.info? ty=some i) (hsz:i.size=seg.length) (h1:rJ u=false→seg.length=1) (ho:off=pre.length) :
  (part ty (pre++(seg++post)).toArray off).run P w=.ok (ER u seg) w:=by
 unfold part
 rw[Sem.run_bind,oK hu,Result.andThen_ok]
 unfold ER
 cases ha:rJ u with
 |true=>
  simp only[if_true]
  rw[Sem.run_bind,run_sizeOf hi,Result.andThen_ok,hsz,ho]
  simp only[Sem.run_pure]
  congr 2
  apply Array.ext'
  simp[List.extract]
 |false=>
  simp only[Bool.false_eq_true,if_false]
  have hl:=h1 ha
  match seg,hl with
  |[v],_=>
   rw[ho]
   simp
theorem zH {G:TypeId→Option (List CK)} {D:Nat} (hG:∀t ks,G t=some ks→∀u,P.underlying t=some u→∀is js xs ys,aG is ks=true→aG js ks=true→aO Q w is xs→aO Q w js ys→(Op.equalIn D t (ER u xs) (ER u ys)).run P w=.ok (eqC is js) w) :
  ∀(fs:List Field) (off:Nat) (ks:List CK),xX P G off fs=some ks→∀(pre pre':List Value) (is js:List IV) (xs ys:List Value),pre.length=off→pre'.length=off→aG is ks=true→aG js ks=true→aO Q w is xs→aO Q w js ys→
   (Op.eqFields D (pre++xs).toArray (pre'++ys).toArray fs).run P w=.ok (eqC is js) w
 |[],off,ks,h,pre,pre',is,js,xs,ys,_,_,h1,h2,_,_=>by
  unfold xX at h
  simp only[Option.some.injEq]at h
  subst h
  have e1:is=[]:=by cases is with
   |nil=>rfl
   |cons a l=>cases a<;>simp[aG]at h1
  have e2:js=[]:=by cases js with
   |nil=>rfl
   |cons a l=>cases a<;>simp[aG]at h2
  subst e1;subst e2
  simp[Op.eqFields,eqC]
 |f::fs,off,ks,h,pre,pre',is,js,xs,ys,hp,hp',h1,h2,h3,h4=>by
  unfold xX at h
  split at h
  ·rename_i k1 i u hg hi hu
   split at h
   ·rename_i hc
    simp only[decide_eq_true_eq]at hc
    obtain⟨c1,c2,c3,c4⟩:=hc
    split at h
    ·rename_i k2 hf
     simp only[Option.some.injEq]at h
     subst h
     obtain⟨i1,i2,rfl,a1,a2,a3⟩:=fU h1
     obtain⟨j1,j2,rfl,b1,b2,b3⟩:=fU h2
     obtain⟨s1,s2,rfl,g1,g2,g3⟩:=l9 h3
     obtain⟨t1,t2,rfl,r1,r2,r3⟩:=l9 h4
     have ls:s1.length=k1.length:=g3.trans a3
     have lt:t1.length=k1.length:=r3.trans b3
     simp only[Op.eqFields]
     rw[if_pos c2,Sem.run_bind,sU hu hi (by rw[c3,ls]) (fun h=>by rw[ls];exact c4 h) (by rw[c1,hp]),Result.andThen_ok,Sem.run_bind,sU hu hi (by rw[c3,lt]) (fun h=>by rw[lt];exact c4 h) (by rw[c1,hp']),Result.andThen_ok,Sem.run_bind,hG _ _ hg u hu i1 j1 s1 t1 a1 b1 g1 r1,Result.andThen_ok,uX a1 b1]
     cases he:eqC i1 j1 with
     |false=>simp
     |true=>
      simp only[Bool.not_true,Bool.false_eq_true,if_false,Bool.true_and]
      have:=zH hG fs (off+k1.length) k2 hf (pre++s1) (pre'++t1) i2 j2 s2 t2 (by simp[hp,ls]) (by simp[hp',lt]) a2 b2 g2 r2
      rw[List.append_assoc,List.append_assoc]at this
      exact this
    ·cases h
   ·cases h
  ·cases h
theorem QH (s t:ByteArray):(s.toList == t.toList)=decide (s=t):=by
 rw[←beq_toListBytes]
 by_cases h:s=t
 ·subst h;simp[beq_toListBytes]
 ·simp only[h,decide_false]
  rw[beq_toListBytes,Go.ByteArray.toList_eq,Go.ByteArray.toList_eq]
  simp only[beq_eq_false_iff_ne]
  intro e
  apply h
  cases s;cases t
  simp_all
theorem one_cell {k:CK} {is:List IV} (h:aG is [k]=true):∃i,is=[i]:=by
 cases is with
 |nil=>simp[aG]at h
 |cons a l=>
  refine⟨a,?_⟩
  cases l with
  |nil=>rfl
  |cons b l=>cases a<;>cases k<;>simp[aG]at h
theorem Nc:∀(d:Nat) (t:TypeId) (ks:List CK),qJ P d t=some ks→∀D,d≤D→∀u,P.underlying t=some u→∀(is js:List IV) (xs ys:List Value),aG is ks=true→aG js ks=true→aO Q w is xs→aO Q w js ys→
  (Op.equalIn D t (ER u xs) (ER u ys)).run P w=.ok (eqC is js) w
 |0,t,ks,h,D,_,u,_,is,js,xs,ys,_,_,_,_=>by unfold qJ at h;cases h
 |d+1,t,ks,h,D,hD,u,hu,is,js,xs,ys,h1,h2,h3,h4=>by
  obtain⟨D,rfl⟩:∃E,D=E+1:=⟨D - 1,by omega⟩
  unfold qJ at h
  rw[hu]at h
  split at h
  ·rename_i k heq
   injection heq with heq
   simp only[Option.some.injEq]at h
   subst h;subst heq
   obtain⟨i,rfl⟩:=one_cell h1
   obtain⟨j,rfl⟩:=one_cell h2
   cases i<;>simp only[aG,Bool.and_eq_true,decide_eq_true_eq]at h1<;>first|(cases h1;done)|skip
   cases j<;>simp only[aG,Bool.and_eq_true,decide_eq_true_eq]at h2<;>first|(cases h2;done)|skip
   rename_i k1 a k2 b
   obtain⟨rfl,_⟩:=h1
   obtain⟨rfl,_⟩:=h2
   simp only[aO,aF]at h3 h4
   obtain⟨_,_,rfl,_,rfl,rfl⟩:=h3
   obtain⟨_,_,rfl,_,rfl,rfl⟩:=h4
   show (Op.equalIn (D+1) t (.int _ a) (.int _ b)).run P w=_
   rw[run_equalIn_int w D t _ _ a b hu]
   simp[eqC]
   by_cases e:a=b<;>simp[e]
  ·rename_i heq
   injection heq with heq
   simp only[Option.some.injEq]at h
   subst h;subst heq
   obtain⟨i,rfl⟩:=one_cell h1
   obtain⟨j,rfl⟩:=one_cell h2
   cases i<;>simp only[aG]at h1<;>first|(cases h1;done)|skip
   cases j<;>simp only[aG]at h2<;>first|(cases h2;done)|skip
   rename_i a b
   simp only[aO,aF]at h3 h4
   obtain⟨_,_,rfl,_,rfl,rfl⟩:=h3
   obtain⟨_,_,rfl,_,rfl,rfl⟩:=h4
   show (Op.equalIn (D+1) t (.string a) (.string b)).run P w=_
   rw[run_equalIn_string w D t a b hu,QH]
   simp[eqC]
  ·rename_i heq
   injection heq with heq
   simp only[Option.some.injEq]at h
   subst h;subst heq
   obtain⟨i,rfl⟩:=one_cell h1
   obtain⟨j,rfl⟩:=one_cell h2
   cases i<;>simp only[aG]at h1<;>first|(cases h1;done)|skip
   cases j<;>simp only[aG]at h2<;>first|(cases h2;done)|skip
   rename_i a b
   simp only[aO,aF]at h3 h4
   obtain⟨_,_,rfl,_,rfl,rfl⟩:=h3
   obtain⟨_,_,rfl,_,rfl,rfl⟩:=h4
   show (Op.equalIn (D+1) t (.bool a) (.bool b)).run P w=_
   rw[run_equalIn_bool' w D t a b hu]
   simp[eqC]
  ·rename_i fs heq
   injection heq with heq
   subst heq
   split at h
   ·cases h
   ·rename_i hs
    obtain⟨e1,e2⟩:=Hq hu
    show (Op.equalIn (D+1) t (.agg xs.toArray) (.agg ys.toArray)).run P w=_
    rw[run_equalIn_struct w D t _ _ e1 hs,e2]
    exact zH (fun t ks hk u hu is js xs ys q1 q2 q3 q4=>Nc d t ks hk D (by omega) u hu is js xs ys q1 q2 q3 q4) fs.toList 0 ks h [] [] is js xs ys rfl rfl h1 h2 h3 h4
  ·cases h
theorem xQ {em:Bool} {G:TypeId→Option (List CK)} {D:Nat} (hG:∀t ks,G t=some ks→∀u,P.underlying t=some u→∀is xs,aG is ks=true→aO Q w is xs→(Instr.checkKey em D t (ER u xs)).run P w=.ok () w) :
  ∀(fs:List Field) (off:Nat) (ks:List CK),xX P G off fs=some ks→∀(pre:List Value) (is:List IV) (xs:List Value),pre.length=off→aG is ks=true→aO Q w is xs→
   (forIn (m := Sem) fs PUnit.unit fun (f : Field) (_ : PUnit) => if f.name ≠ "_" then (do
     let v ←part f.type (pre++xs).toArray f.offset
     Instr.checkKey em D f.type v
     pure (ForInStep.yield PUnit.unit)) else pure (ForInStep.yield PUnit.unit)).run P w=.ok PUnit.unit w
 |[],off,ks,h,pre,is,xs,_,_,_=>by simp
 |f::fs,off,ks,h,pre,is,xs,hp,h1,h3=>by
  unfold xX at h
  split at h
  ·rename_i k1 i u hg hi hu
   split at h
   ·rename_i hc
    simp only[decide_eq_true_eq]at hc
    obtain⟨c1,c2,c3,c4⟩:=hc
    split at h
    ·rename_i k2 hf
     simp only[Option.some.injEq]at h
     subst h
     obtain⟨i1,i2,rfl,a1,a2,a3⟩:=fU h1
     obtain⟨s1,s2,rfl,g1,g2,g3⟩:=l9 h3
     have ls:s1.length=k1.length:=g3.trans a3
     have:=xQ hG fs (off+k1.length) k2 hf (pre++s1) i2 s2 (by simp[hp,ls]) a2 g2
     rw[List.append_assoc]at this
     simp only[List.forIn_cons,Sem.run_bind]
     rw[if_pos c2]
     simp only[Sem.run_bind]
     rw[sU hu hi (by rw[c3,ls]) (fun h=>by rw[ls];exact c4 h) (by rw[c1,hp]),Result.andThen_ok,hG _ _ hg u hu i1 s1 a1 g1,Result.andThen_ok]
     simp only[Sem.run_pure,Result.andThen_ok]
     exact this
    ·cases h
   ·cases h
  ·cases h
theorem Tk {em:Bool}:∀(d:Nat) (t:TypeId) (ks:List CK),qJ P d t=some ks→∀D,d≤D→∀u,P.underlying t=some u→∀(is:List IV) (xs:List Value),aG is ks=true→aO Q w is xs→
  (Instr.checkKey em D t (ER u xs)).run P w=.ok () w
 |0,t,ks,h,D,_,u,_,is,xs,_,_=>by unfold qJ at h;cases h
 |d+1,t,ks,h,D,hD,u,hu,is,xs,h1,h3=>by
  obtain⟨D,rfl⟩:∃E,D=E+1:=⟨D - 1,by omega⟩
  unfold qJ at h
  rw[hu]at h
  split at h
  ·rename_i k heq
   injection heq with heq
   subst heq
   simp[Instr.checkKey,run_underlying hu]
  ·rename_i heq
   injection heq with heq
   subst heq
   simp[Instr.checkKey,run_underlying hu]
  ·rename_i heq
   injection heq with heq
   subst heq
   simp[Instr.checkKey,run_underlying hu]
  ·rename_i fs heq
   injection heq with heq
   subst heq
   split at h
   ·cases h
   ·show (Instr.checkKey em (D+1) t (.agg xs.toArray)).run P w=_
    rw[Instr.checkKey,Sem.run_bind,run_underlying hu,Result.andThen_ok]
    simp only[]
    have:=xQ (em:=em) (G:=qJ P d) (D:=D) (fun t ks hk u hu is xs q1 q3=>Tk d t ks hk D (by omega) u hu is xs q1 q3) fs.toList 0 ks h [] is xs rfl h1 h3
    rw[←Array.forIn_toList]
    simpa using this
  ·cases h
theorem qL:dW P (TA P):=by
 intro t ks h w x y is js xs ys Q h1 h2 h3 h4
 unfold TA at h
 split at h
 ·rename_i fs hu
  split at h
  ·cases h
  ·rename_i hg
   have e1:=Nc 9 t ks h Op.maxDepth (by decide) _ hu is js xs ys h1 h2 h3 h4
   exact⟨run_eqGuard_agg w _ _ _ _ _ _ hg,run_eqGuard_agg w _ _ _ _ _ _ hg,e1,fun em=>Tk 9 t ks h 10000 (by decide) _ hu is xs h1 h3⟩
 ·cases h
end
end Go.Pv
