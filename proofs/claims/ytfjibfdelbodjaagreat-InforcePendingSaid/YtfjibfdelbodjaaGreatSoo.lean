/-
  Plain values: slices.Sort of a row of the call's own, of ints or strings (one cell each), lifted to a call that is given the row.
-/
import Derived.Sort.Walk11
import Derived.Test.YtfjibfdelbodjaaGreatP7
namespace Go.Pv
open Go.RowKit (Below)
open Go.Sort (Holds putRow grow mapBlock onCells putCells heap_grow_old)
set_option linter.unusedSectionVars false
section
variable {α:Type} [Inhabited α] (enc:α→Value) (ev:α→IV)
structure Q8:Prop where
 one:∀x,(enc x).oneCell'=true
 cells:∀x,(enc x).cells=#[enc x]
 rep:∀(Q:Nat→Prop) (w:World) (x:α) (v:Value),aF Q w (ev x) v↔v=enc x
variable {enc ev}
theorem DY {kk:K} {n:Nat} {w:World} (h:Q8 enc ev):∀{L:List α} {xs:List Value},aL kk n w 1 ((L.map ev).map .imm) xs→xs=L.map enc
 |[],xs,hE=>by
  simp only[List.map_nil]at hE
  unfold aL at hE
  rw[hE];rfl
 |a::L,xs,hE=>by
  simp only[List.map_cons]at hE
  unfold aL at hE
  obtain⟨v,r,h1,_,_,h2,h3⟩:=hE
  obtain rfl:=(h.rep _ _ _ _).1 (aB.1 h2)
  rw[h1,DY h h3,h.cells]
  rfl
theorem zl {kk:K} {n:Nat} {w:World} (h:Q8 enc ev):∀L:List α,aL kk n w 1 ((L.map ev).map .imm) (L.map enc)
 |[]=>by simp[aL]
 |a::L=>by
  simp only[List.map_cons]
  unfold aL
  exact⟨enc a,_,by rw[h.cells];rfl,by rw[h.cells];rfl,fun u hu=>by rw[h.cells]at hu;rw[List.mem_singleton.1 hu];exact h.one a,aB.2 ((h.rep _ _ _ _).2 rfl),zl h L⟩
theorem Kl {P:Program} {X:Env} {f:FuncId} {e:TypeId} (hE:Q8 enc ev) (srt:List α→List α) (hlen:∀l,(srt l).length=l.length) (hent:∀az w,(callFunc f az).run P w=.ok (.enter f az) w)
  (hcon:∀(w:World) (blk cap:Nat) (l:List α),Holds enc w blk 0 l.toArray→blk < w.heap.size→l.length≤most→Calls P f #[.slice (some ⟨blk,0,none⟩) l.length cap] w fun e w'=>e=.returned (.tuple #[])∧∃n os,w'=grow (putRow enc (Go.Sort.ahead w n) blk 0 (srt l).toArray) os)
  (hnone:∀(p:Option Addr) (cap:Nat) (w:World),Calls P f #[.slice p 0 cap] w fun e w'=>e=.returned (.tuple #[])∧w'=w)
  (L:List α) (hL:L.length≤most):PCB P X f [.row 0 1] [.row e 1 1 ((L.map ev).map .imm)] [] [.row e 1 1 (((srt L).map ev).map .imm)]:=by
 refine⟨hent,rfl,fun Γ kk w vs hΓ hI hT=>?_⟩
 unfold aI at hT
 obtain⟨v,r1,rfl,hv,hT⟩:=hT
 unfold aI at hT
 subst hT
 have hb:[Blk.row e 1 1 ((L.map ev).map .imm)][0]?=some (.row e 1 1 ((L.map ev).map .imm)):=rfl
 obtain⟨xs,hvr,hown,hxE,hG⟩:=dD (s:=⟨[],[Blk.row e 1 1 ((L.map ev).map .imm)]⟩) hI hv hb
 have hml:((L.map ev).map PV.imm).length=L.length:=by simp
 have hms:(((srt L).map ev).map PV.imm).length=L.length:=by simp[hlen]
 obtain rfl:=DY hE hxE
 rw[hml]at hown
 have fin:∀w':World,Below Γ.N w w'→(∀b,b < w.heap.size→some b≠base (kk.ρ 0)→w'.heap[b]?=w.heap[b]?)→(∀b,base (kk.ρ 0)=some b→b < w'.heap.size)→w'.ownsRow Γ.N e 1 (kk.ρ 0) L.length ((srt L).map enc)→
   ∃u k',Ending.returned (Value.tuple #[])=.returned u∧Ext kk 1 w k' 1 w'∧Inv Γ k' [.row e 1 1 (((srt L).map ev).map .imm)] w'∧Rep k' 1 w' (qP []) u:=by
  intro w' hbel hoth hlt hrow
  obtain⟨q1,q2⟩:=bJ (v:=kk.ρ 0) (g:=1) (y:=.row e 1 1 (((srt L).map ev).map .imm)) (w':=w') hI hb (Or.inr ⟨hG,rfl⟩) hbel hoth (fun b hb'=>⟨Or.inr hb',hlt b hb'⟩) (fun _=>⟨K.bP _ _ _ _,_,by rw[K.bL,hms];exact hrow,zl hE _⟩)
  refine⟨_,_,rfl,q1,q2,?_⟩
  show Rep _ _ _ (.tup []) _
  unfold Rep aI
  exact⟨[],rfl,rfl⟩
 rw[←hvr]at hown fin
 by_cases h0:L.length=0
 ·obtain⟨ad,c,hf⟩:=dR hown
  rw[h0]at hf
  obtain rfl:L=[]:=List.length_eq_zero_iff.1 h0
  have hs0:srt []=[]:=List.length_eq_zero_iff.1 (hlen [])
  show Calls P f #[v] w _
  rw[hf]
  refine (hnone ad c w).mono ?_
  rintro e' w' ⟨rfl,rfl⟩
  refine fin w' (Below.refl _ _) (fun _ _ _=>rfl) (fun b hb'=>?_) (by rw[hs0];exact hown)
  exact (hI.sep 0 _ b hb (by show base (kk.ρ 0)=some b;rw[←hvr];exact hb')).2.2
 ·rcases hown.2 with ⟨_,h2⟩|⟨b,cap,cur,e1,e2,e3,e4,e5,e6,e7⟩
  ·omega
  have hlt:b < w.heap.size:=(Array.getElem?_eq_some_iff.1 e3).1
  have hH:Holds enc w b 0 L.toArray:=fun j hj=>by
   have hj':j < L.length:=by simpa using hj
   have hc:cur[j]?=some (enc L.toArray[j]!):=by
    have h3:(cur.toList.take (L.length*1))[j]?=(L.map enc)[j]?:=by rw[e7]
    rw[List.getElem?_take,if_pos (by omega),Array.getElem?_toList]at h3
    rw[h3,getElem!_pos L.toArray j hj]
    simp[List.getElem?_eq_getElem hj']
   refine⟨?_,by simp[World.frozen?,e3]⟩
   rw[World.cell?,e3,Nat.zero_add]
   simpa using hc
  show Calls P f #[v] w _
  rw[e1]
  refine (hcon w b cap L hH hlt hL).mono ?_
  rintro e' w' ⟨rfl,n,os,rfl⟩
  have hF:(srt L).toArray.size=L.length:=by simp[hlen]
  rw[e1]at fin
  have hheap:∀j,j < w.heap.size→(grow (putRow enc (Go.Sort.ahead w n) b 0 (srt L).toArray) os).heap[j]?=if b=j then some (.cells (putCells enc 0 (srt L).toArray cur) e (0,0)) else w.heap[j]?:=by
   intro j hj
   rw[heap_grow_old _ _ (by simp[putRow,mapBlock,Go.Sort.ahead];exact hj)]
   by_cases hbj:b=j
   ·subst hbj
    simp[putRow,mapBlock,Go.Sort.ahead,Array.getElem?_modify,onCells,e3]
   ·simp[putRow,mapBlock,Go.Sort.ahead,Array.getElem?_modify,hbj]
  have hsize:w.heap.size≤(grow (putRow enc (Go.Sort.ahead w n) b 0 (srt L).toArray) os).heap.size:=by
   simp[grow,putRow,mapBlock,Go.Sort.ahead]
  refine fin _ ⟨rfl,rfl,rfl,hsize,fun j hj=>?_⟩ (fun j hj hne=>?_) (fun j hj=>?_) ?_
  ·have hw:Γ.N≤w.heap.size:=hI.le
   rw[hheap j (by omega),if_neg (by omega)]
  ·rw[hheap j hj,if_neg (fun h=>hne (by rw[h];rfl))]
  ·simp only[base,Option.some.injEq]at hj
   subst hj
   exact Nat.lt_of_lt_of_le hlt hsize
  ·refine⟨by simp[hlen],Or.inr ⟨b,cap,_,rfl,e2,by rw[hheap b hlt,if_pos rfl],e4,e5,?_,?_⟩⟩
   ·simp[putCells,e6]
   ·apply List.ext_getElem?
    intro j
    rw[List.getElem?_take]
    by_cases hj:j < L.length
    ·have hjc:j < cur.size:=by rw[e6];omega
     have hjs:j < (srt L).length:=by rw[hlen];exact hj
     rw[if_pos (by omega),Array.getElem?_toList]
     simp only[putCells,Array.getElem?_mapIdx,getElem?_pos cur j hjc,Option.map_some,Nat.zero_le,true_and,Nat.zero_add,Nat.sub_zero]
     rw[if_pos (by rw[hF];exact hj),getElem!_pos (srt L).toArray j (by rw[hF];exact hj)]
     simp[List.getElem?_eq_getElem hjs]
    ·rw[if_neg (by omega),List.getElem?_eq_none (by rw[List.length_map,hlen];omega)]
end
theorem Np:Q8 (Value.int .i64) (fun z:Int=>IV.int .i64 z) where
 one _:=rfl
 cells _:=rfl
 rep Q w x v:=by unfold aF;exact Iff.rfl
end Go.Pv
