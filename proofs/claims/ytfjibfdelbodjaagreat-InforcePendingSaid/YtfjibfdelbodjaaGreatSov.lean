/-
  Plain values: slices.SortFunc of a row of the call's own, of any structs, by a comparison that is known as a call of plain values.
-/
import Derived.Shelf.SlSortCmp.WholeK
import Derived.Test.YtfjibfdelbodjaaGreatP7
import Derived.Test.YtfjibfdelbodjaaGreatSol
namespace Go.Pv
open Go.RowKit (Below)
open Go.Sort (HoldsK Holds flatK putRowK putRow grow mapBlock onCells putCells get_flatK size_flatK heap_grow_old SWO PermIn SortedIn)
open Go.Proofs (sortWorldK ltOf CmpLays)
theorem QX {w w':World} (h:Below w.heap.size w w') (hd:w.drawn≤w'.drawn):∃q os,w'=grow (w.drewN q) os:=by
 refine⟨w'.drawn - w.drawn,w'.heap.extract w.heap.size w'.heap.size,?_⟩
 obtain⟨h1,h2,h3,h4,h5⟩:=h
 have hh:w'.heap=w.heap++w'.heap.extract w.heap.size w'.heap.size:=by
  apply Array.ext_getElem?
  intro i
  rw[Array.getElem?_append]
  split
  ·rename_i hi;exact h5 i hi
  ·rename_i hi
   rw[Array.getElem?_extract]
   split
   ·congr 1;omega
   ·rename_i h6
    exact Array.getElem?_eq_none (by omega)
 have hn:w'.drawn=w.drawn+(w'.drawn - w.drawn):=by omega
 show w'={ heap:=w.heap++w'.heap.extract w.heap.size w'.heap.size,tape:=w.tape,drawn:=w.drawn+(w'.drawn - w.drawn),os:=w.os,output:=w.output }
 rw[←hh,←hn,←h1,←h2,←h3]
theorem zI {kk:K} {n:Nat} {w:World} {k:Nat}:∀{L:List IV} {xs:List Value},aL kk n w k (L.map .imm) xs→
  ∃css:List (List Value),css.length=L.length∧xs=css.flatten∧∀(i:Nat) (x:IV) (cs:List Value),L[i]?=some x→css[i]?=some cs→(∃v:Value,aF kk.Q w x v∧v.cells.toList=cs)∧cs.length=k∧∀u∈cs,u.oneCell'=true
 |[],xs,hE=>by
  simp only[List.map_nil]at hE
  unfold aL at hE
  subst hE
  exact⟨[],rfl,rfl,fun i x cs h=>by simp at h⟩
 |a::L,xs,hE=>by
  simp only[List.map_cons]at hE
  unfold aL at hE
  obtain⟨v,r,h1,h0,h4,h2,h3⟩:=hE
  obtain⟨css,g1,g2,g3⟩:=zI h3
  refine⟨v.cells.toList::css,by simp[g1],by rw[h1,g2];rfl,fun i x cs hx hc=>?_⟩
  cases i with
  |zero=>
   obtain rfl:a=x:=by simpa using hx
   obtain rfl:v.cells.toList=cs:=by simpa using hc
   exact⟨⟨v,aB.1 h2,rfl⟩,by simpa using h0,h4⟩
  |succ i=>exact g3 i x cs (by simpa using hx) (by simpa using hc)
theorem Ar {kk:K} {n:Nat} {w:World} {k:Nat}:∀{L:List IV} {css:List (List Value)},css.length=L.length→(∀(i:Nat) (x:IV) (cs:List Value),L[i]?=some x→css[i]?=some cs→(∃v:Value,aF kk.Q w x v∧v.cells.toList=cs)∧cs.length=k∧∀u∈cs,u.oneCell'=true)→aL kk n w k (L.map .imm) css.flatten
 |[],css,hl,_=>by
  obtain rfl:css=[]:=List.length_eq_zero_iff.1 (by simpa using hl)
  simp[aL]
 |a::L,[],hl,_=>by simp at hl
 |a::L,cs::css,hl,h=>by
  simp only[List.map_cons]
  unfold aL
  obtain⟨⟨v,h1,h2⟩,h3,h4⟩:=h 0 a cs rfl rfl
  refine⟨v,css.flatten,by rw[h2];rfl,?_,by rw[h2];exact h4,aB.2 h1,Ar (by simpa using hl) fun i x cs' hx hc=>h (i+1) x cs' (by simpa using hx) (by simpa using hc)⟩
  rw[←Array.length_toList,h2]
  exact h3
theorem KZ {α:Type} [Inhabited α] {d d':Array α} (h:PermIn 0 d.size d d'):d'.toList.Perm d.toList:=by
 obtain⟨h1,_,h3⟩:=h
 have e1:d.extract 0 d.size=d:=Array.extract_size
 have e2:d'.extract 0 d.size=d':=by rw[←h1];exact Array.extract_size
 rwa [e1,e2]at h3
theorem DI {α:Type} [Inhabited α] {lt:α→α→Bool} {n:Nat} {d:Array α} (hn:d.size=n) (h:SortedIn lt 0 n d):d.toList.Pairwise fun a b=>lt b a=false:=by
 rw[List.pairwise_iff_getElem]
 intro i j hi hj hij
 have h1:i < d.size:=by simpa using hi
 have h2:j < d.size:=by simpa using hj
 have:=h i j (Nat.zero_le _) hij (by omega)
 rw[getElem!_pos d i h1,getElem!_pos d j h2]at this
 simpa using this
section
variable {β:Type} (ev:β→IV)
theorem AJ {P:Program} {X:Env} {f g:FuncId} {e:TypeId} {k:Nat} (hk0:0 < k) (hagg:∀x,∃cs,ev x=.agg cs) (cf:β→β→Int) (hO:SWO (ltOf cf)) (hent:∀az w,(callFunc f az).run P w=.ok (.enter f az) w)
  (hcon:∀(α:Type) [Inhabited α] (enc:α→List Value),(∀x,(enc x).length=k)→(∀x,∀v∈enc x,v.oneCell'=true)→∀(cfa:α→α→Int),SWO (ltOf cfa)→∀(blk cap:Nat) (d:Array α) (w:World),CmpLays P g #[] enc k cfa blk 0 d.size w→HoldsK enc k w blk 0 d→blk < w.heap.size→d.size < 4611686018427387904→
   Calls P f #[.slice (some ⟨blk,0,none⟩) d.size cap,.func (.func g) #[] #[]] w fun e w'=>e=.returned (.tuple #[])∧∃d' n os,PermIn 0 d.size d d'∧SortedIn (ltOf cfa) 0 d.size d'∧w'=sortWorldK enc k w blk 0 n d' os)
  (hnone:∀(p:Option Addr) (cap:Nat) (w:World),Calls P f #[.slice p 0 cap,.func (.func g) #[] #[]] w fun e w'=>e=.returned (.tuple #[])∧w'=w)
  (L S:List β) (hL:L.length≤most) (hg:∀x∈L,∀y∈L,PC P X g [ev x,ev y] [.int .i64 (cf x y)])
  (hS:∀l':List β,l'.Perm L→l'.Pairwise (fun a b=>ltOf cf b a=false)→l'.map ev=S.map ev):PCB P X f [.row 0 1,.imm (.fn g)] [.row e k 1 ((L.map ev).map .imm)] [] [.row e k 1 ((S.map ev).map .imm)]:=by
 refine⟨hent,rfl,fun Γ kk w vs hΓ hI hT=>?_⟩
 unfold aI at hT
 obtain⟨v,r1,rfl,hv,hT⟩:=hT
 unfold aI at hT
 obtain⟨v1,r2,rfl,h1,hT⟩:=hT
 unfold aI at hT
 subst hT
 rw[aB]at h1
 unfold aF at h1
 subst h1
 have hb:[Blk.row e k 1 ((L.map ev).map .imm)][0]?=some (.row e k 1 ((L.map ev).map .imm)):=rfl
 obtain⟨xs,hvr,hown,hxE,hG⟩:=dD (s:=⟨[],[Blk.row e k 1 ((L.map ev).map .imm)]⟩) hI hv hb
 have hml:((L.map ev).map PV.imm).length=L.length:=by simp
 obtain⟨css,hcl,rfl,hcs⟩:=zI hxE
 rw[List.length_map]at hcl
 rw[hml]at hown
 have fin:∀(w':World) (L':List IV) (css':List (List Value)),L'.length=L.length→css'.length=L'.length→(∀(i:Nat) (x:IV) (cs:List Value),L'[i]?=some x→css'[i]?=some cs→(∃v:Value,aF kk.Q w x v∧v.cells.toList=cs)∧cs.length=k∧∀u∈cs,u.oneCell'=true)→Below Γ.N w w'→(∀b,b < w.heap.size→some b≠base (kk.ρ 0)→w'.heap[b]?=w.heap[b]?)→(∀b,base (kk.ρ 0)=some b→b < w'.heap.size)→w'.ownsRow Γ.N e k (kk.ρ 0) L.length css'.flatten→
   ∃u k',Ending.returned (Value.tuple #[])=.returned u∧Ext kk 1 w k' 1 w'∧Inv Γ k' [.row e k 1 (L'.map .imm)] w'∧Rep k' 1 w' (qP []) u:=by
  intro w' L' css' hll hcl' hcs' hbel hoth hlt hrow
  obtain⟨q1,q2⟩:=bJ (v:=kk.ρ 0) (g:=1) (y:=.row e k 1 (L'.map .imm)) (w':=w') hI hb (Or.inr ⟨hG,rfl⟩) hbel hoth (fun b hb'=>⟨Or.inr hb',hlt b hb'⟩) (fun hx=>⟨K.bP _ _ _ _,_,by rw[K.bL,List.length_map,hll];exact hrow,Ar hcl' fun i x cs hx1 hx2=>by
   obtain⟨⟨v,h1,h2⟩,h3,h4⟩:=hcs' i x cs hx1 hx2
   exact⟨⟨v,aQ hx.q x v h1,h2⟩,h3,h4⟩⟩)
  refine⟨_,_,rfl,q1,q2,?_⟩
  show Rep _ _ _ (.tup []) _
  unfold Rep aI
  exact⟨[],rfl,rfl⟩
 rw[←hvr]at hown fin
 by_cases h0:L.length=0
 ·obtain⟨ad,c,hf⟩:=dR hown
  rw[h0]at hf
  obtain rfl:L=[]:=List.length_eq_zero_iff.1 h0
  have hs0:S.map ev=[]:=(hS [] (List.Perm.refl _) List.Pairwise.nil).symm
  show Calls P f #[v,.func (.func g) #[] #[]] w _
  rw[hf,hs0]
  refine (hnone ad c w).mono ?_
  rintro e' w' ⟨rfl,rfl⟩
  refine fin w' [] css rfl hcl (fun i x cs h=>by simp at h) (Below.refl _ _) (fun _ _ _=>rfl) (fun b hb'=>?_) hown
  exact (hI.sep 0 _ b hb (by show base (kk.ρ 0)=some b;rw[←hvr];exact hb')).2.2
 ·rcases hown.2 with ⟨_,h2⟩|⟨b,cap,cur,e1,e2,e3,e4,e5,e6,e7⟩
  ·omega
  have hlt:b < w.heap.size:=(Array.getElem?_eq_some_iff.1 e3).1
  haveI:Inhabited (Fin L.length):=⟨⟨0,by omega⟩⟩
  have hci:∀i:Fin L.length,∃cs,css[i.val]?=some cs:=fun i=>⟨css[i.val]'(by rw[hcl];exact i.isLt),List.getElem?_eq_getElem _⟩
  let enc:Fin L.length→List Value:=fun i=>(css[i.val]?).getD []
  have henc:∀i:Fin L.length,css[i.val]?=some (enc i):=fun i=>by
   obtain⟨cs,h⟩:=hci i
   show css[i.val]?=some ((css[i.val]?).getD [])
   rw[h];rfl
  have hLi:∀i:Fin L.length,(L.map ev)[i.val]?=some (ev (L[i]:β)):=fun i=>by
   rw[List.getElem?_map,List.getElem?_eq_getElem i.isLt];rfl
  have hall:∀i:Fin L.length,(∃v:Value,aF kk.Q w (ev (L[i]:β)) v∧v.cells.toList=enc i)∧(enc i).length=k∧∀u∈enc i,u.oneCell'=true:=fun i=>hcs i.val _ _ (hLi i) (henc i)
  have hrep:∀i:Fin L.length,aF kk.Q w (ev (L[i]:β)) (.agg (enc i).toArray):=fun i=>by
   obtain⟨⟨v,h1,h2⟩,_⟩:=hall i
   obtain⟨cs,hcse⟩:=hagg (L[i]:β)
   rw[hcse]at h1 ⊢
   obtain⟨vs,rfl,h3⟩:=bG.1 h1
   rw[←h2]
   exact h1
  have hkl:∀i,(enc i).length=k:=fun i=>(hall i).2.1
  have hon:∀i,∀v∈enc i,v.oneCell'=true:=fun i=>(hall i).2.2
  let cfa:Fin L.length→Fin L.length→Int:=fun i j=>cf (L[i]:β) L[j]
  have hOa:SWO (ltOf cfa):=⟨fun x=>hO.irrefl (L[x]:β),fun x y z=>hO.trans (L[x]:β) (L[y]:β) (L[z]:β),fun x y z=>hO.ntrans (L[x]:β) (L[y]:β) (L[z]:β)⟩
  have hfin:(List.finRange L.length).map (fun i=>(L[i]:β))=L:=by
   apply List.ext_getElem
   ·simp
   ·intro i h1 h2;simp
  have hfle:(List.finRange L.length).map enc=css:=by
   apply List.ext_getElem?
   intro i
   by_cases hi:i < L.length
   ·rw[List.getElem?_map,List.getElem?_eq_getElem (by simpa using hi)]
    simp only[Option.map_some,List.getElem_finRange]
    exact (henc _).symm
   ·rw[List.getElem?_eq_none (by simpa using hi),List.getElem?_eq_none (by omega)]
  have hfl:=zW enc k hkl hk0 (List.finRange L.length)
  rw[hfle]at hfl
  have hsz:(List.finRange L.length).toArray.size=L.length:=by simp
  have hH:HoldsK enc k w b 0 (List.finRange L.length).toArray:=fun j hj=>by
   have hj':j < L.length*k:=by simpa using hj
   have hc:cur[j]?=some (flatK enc k (List.finRange L.length).toArray)[j]! := by
    have h3:(cur.toList.take (L.length*k))[j]?=(flatK enc k (List.finRange L.length).toArray).toList[j]?:=by rw[e7,hfl]
    rw[List.getElem?_take,if_pos hj',Array.getElem?_toList,Array.getElem?_toList]at h3
    rw[h3,getElem!_pos (flatK enc k (List.finRange L.length).toArray) j hj,getElem?_pos (flatK enc k (List.finRange L.length).toArray) j hj]
   refine⟨?_,by simp[World.frozen?,e3]⟩
   rw[World.cell?,e3,Nat.zero_add]
   simpa using hc
  have hheap:∀(m:Nat) (os:Array Obj) (d':Array (Fin L.length)) (j:Nat),j < w.heap.size→(sortWorldK enc k w b 0 m d' os).heap[j]?=if b=j then some (.cells (putCells id 0 (flatK enc k d') cur) e (0,0)) else w.heap[j]?:=by
   intro m os d' j hj
   unfold sortWorldK
   rw[heap_grow_old _ _ (by simp[putRowK,putRow,mapBlock,Go.Sort.ahead];exact hj)]
   by_cases hbj:b=j
   ·subst hbj
    simp[putRowK,putRow,mapBlock,Go.Sort.ahead,Array.getElem?_modify,onCells,e3]
   ·simp[putRowK,putRow,mapBlock,Go.Sort.ahead,Array.getElem?_modify,hbj]
  have hsize:∀(m:Nat) (os:Array Obj) (d':Array (Fin L.length)),w.heap.size≤(sortWorldK enc k w b 0 m d' os).heap.size:=by
   intro m os d'
   simp[sortWorldK,grow,putRowK,putRow,mapBlock,Go.Sort.ahead]
  have hNb:Γ.N≤b:=e2
  have hbelow:∀(m:Nat) (os:Array Obj) (d':Array (Fin L.length)),Below Γ.N w (sortWorldK enc k w b 0 m d' os):=fun m os d'=>⟨rfl,rfl,rfl,hsize m os d',fun j hj=>by
   have hw:Γ.N≤w.heap.size:=hI.le
   rw[hheap m os d' j (by omega),if_neg (by omega)]⟩
  have hbQ:¬kk.Q b:=(hI.sep 0 _ b hb (by show base (kk.ρ 0)=some b;rw[←hvr,e1];rfl)).1
  have hQs:∀(m:Nat) (os:Array Obj) (d':Array (Fin L.length)) (q:Nat),kk.Q q→kk.Q q∧(sortWorldK enc k w b 0 m d' os).heap[q]?=w.heap[q]?:=fun m os d' q hq=>⟨hq,by
   rw[hheap m os d' q (hI.lt q hq),if_neg (fun h:b=q=>hbQ (by rw[h];exact hq))]⟩
  have hcmp:CmpLays P g #[] enc k cfa b 0 (List.finRange L.length).toArray.size w:=by
   intro m os dk _ x y
   have hC:=(hg (L[x]:β) (List.getElem_mem _) (L[y]:β) (List.getElem_mem _)).2 kk.Q (sortWorldK enc k w b 0 m dk os) [.agg (enc x).toArray,.agg (enc y).toArray]
    (fun q hq=>Nat.lt_of_lt_of_le (hI.lt q hq) (hsize m os dk))
    (fun gg cs hgg=>by
     have h:=hI.gl gg cs (by rw[hΓ];exact hgg)
     unfold Rep at h ⊢
     obtain⟨b',off,us,k1,k2,k3,k4⟩:=h
     refine⟨b',off,us,k1,k2,jv (hQs m os dk) cs us k3,fun j u hu=>?_⟩
     rw[World.cell?_of_block (w:=w) (a:=⟨b',off+j,none⟩) (hQs m os dk b' k2).2]
     exact k4 j u hu)
    (by
     rw[←hΓ]
     obtain⟨w1,r1,r2,r3⟩:=hI.rr
     exact Γ.X.st w1 _ r1 (r3.trans ((hbelow m os dk).mono r2)))
    (by
     unfold aV
     refine⟨_,_,rfl,aQ (hQs m os dk) _ _ (hrep x),?_⟩
     unfold aV
     refine⟨_,_,rfl,aQ (hQs m os dk) _ _ (hrep y),?_⟩
     unfold aV
     rfl)
   refine (Calls.drawn hC).mono ?_
   rintro e' w' ⟨⟨u,Q',rfl,h2,_,_,h5⟩,h6⟩
   refine⟨?_,QX h2 (h6 ⟨_,rfl⟩)⟩
   unfold jy aF at h5
   rw[h5]
  show Calls P f #[v,.func (.func g) #[] #[]] w _
  rw[e1]
  have hC:=hcon (Fin L.length) enc hkl hon cfa hOa b cap (List.finRange L.length).toArray w hcmp hH hlt (by rw[hsz];unfold most at hL;omega)
  rw[hsz]at hC
  refine hC.mono ?_
  rintro e' w' ⟨rfl,d',n,os,hp,hso,rfl⟩
  have hperm:d'.toList.Perm (List.finRange L.length):=by
   have:=KZ (d:=(List.finRange L.length).toArray) (d':=d') (by rw[hsz];exact hp)
   simpa using this
  have hdl:d'.toList.length=L.length:=by rw[hperm.length_eq];simp
  have hS':=hS (d'.toList.map fun i=>(L[i]:β)) (by
   have:=hperm.map fun i=>(L[i]:β)
   rwa [hfin]at this) (by
   have:=DI (n:=L.length) (by rw[←Array.length_toList];exact hdl) hso
   rw[List.pairwise_map]
   exact this)
  have hfs:=zW enc k hkl hk0 d'.toList
  have hta:d'.toList.toArray=d':=by simp
  rw[hta]at hfs
  have hF:(flatK enc k d').size=L.length*k:=by rw[size_flatK,←Array.length_toList,hdl]
  have hfll:((d'.toList.map enc).flatten).length=L.length*k:=by rw[nE enc k hkl,hdl]
  rw[←hS']
  rw[e1]at fin
  refine fin _ _ (d'.toList.map enc) (by simp[hdl]) (by simp) (fun i x cs hx hc=>?_) (hbelow n os d') (fun j hj hne=>?_) (fun j hj=>?_) ?_
  ·rw[List.getElem?_map]at hc
   rw[List.getElem?_map,List.getElem?_map]at hx
   cases hq:d'.toList[i]? with
   |none=>rw[hq]at hc;cases hc
   |some q=>
    rw[hq]at hc hx
    obtain rfl:ev (L[q]:β)=x:=by simpa using hx
    obtain rfl:enc q=cs:=by simpa using hc
    exact hall q
  ·rw[hheap n os d' j hj,if_neg (fun h=>hne (by rw[h];rfl))]
  ·simp only[base,Option.some.injEq]at hj
   subst hj
   exact Nat.lt_of_lt_of_le hlt (hsize n os d')
  ·refine⟨hfll,Or.inr ⟨b,cap,_,rfl,e2,by rw[hheap n os d' b hlt,if_pos rfl],e4,e5,?_,?_⟩⟩
   ·simp[putCells,e6]
   ·rw[←hfs]
    apply List.ext_getElem?
    intro j
    rw[List.getElem?_take]
    by_cases hj:j < L.length*k
    ·have hjc:j < cur.size:=by rw[e6];exact Nat.lt_of_lt_of_le hj (Nat.mul_le_mul_right _ e4)
     rw[if_pos hj,Array.getElem?_toList,Array.getElem?_toList,getElem?_pos (flatK enc k d') j (by rw[hF];exact hj)]
     simp only[putCells,Array.getElem?_mapIdx,getElem?_pos cur j hjc,Option.map_some,Nat.zero_le,true_and,Nat.zero_add,id_eq,Nat.sub_zero]
     rw[if_pos (by rw[hF];exact hj),getElem!_pos (flatK enc k d') j (by rw[hF];exact hj)]
    ·rw[if_neg hj,Array.getElem?_toList,Array.getElem?_eq_none (by rw[hF];omega)]
end
end Go.Pv
