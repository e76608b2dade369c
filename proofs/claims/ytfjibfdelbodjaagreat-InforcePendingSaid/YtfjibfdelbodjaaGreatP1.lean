/-
  Plain values: what the memory of a call holds, said without memory. Definitions, and that they stay true when memory grows. Plain values: the types of a program, and what one operation does to plain values. Plain values: what a new block and a store do to a state. Plain values: that an operation does to memory what 'absOp' says. Plain values: each operation.
-/
import Derived.Calls
import Derived.Orders
import Derived.Below
import Derived.Laws.AppendOwn
import Derived.Deep.Draws
import Derived.MapKept
import Derived.Maps.RangeRun
import Derived.Laws.Tables
import Derived.Laws.Entries
import Derived.Laws.Small
import Derived.Laws.Strings
import Derived.Laws.Pointers
namespace Go.Pv
open Go.RowKit (Below)
inductive IV
 |bool (b:Bool)
 |int (k:IntKind) (z:Int)
 |str (s:ByteArray)
 |fn (f:FuncId)
 |nil
 |np
 |nm
 |nf
 |agg (cs:List IV)
 |sl (sz:Nat) (es:List IV)
 |clo (f:FuncId) (cs:List IV)
 |ip (cs:List IV)
 deriving Inhabited
inductive CK
 |int (k:IntKind)
 |str
 |bool
 deriving DecidableEq
inductive MK
 |int (k:IntKind)
 |str
 |bool
 |cells (t:TypeId) (ks:List CK)
 |iter (b:Bool)
 |rows (kk:MK) (e:TypeId) (sz:Nat) (out:Option (Nat×Nat×Nat))
 deriving DecidableEq,Inhabited
inductive PV
 |any
 |imm (i:IV)
 |agg (cs:List PV)
 |tup (cs:List PV)
 |ptr (r g o:Nat)
 |row (r g:Nat)
 |eptr (r g sz i o:Nat)
 |sub (r g sz h n:Nat)
 |iptr (cs:List IV)
 |ful (sz:Nat) (es:List IV)
 |clo (f:FuncId) (cs:List PV)
 deriving Inhabited
inductive Blk
 |dead (g:Nat)
 |box (g:Nat) (cs:List PV) (t:Option TypeId:=none)
 |row (e:TypeId) (sz g:Nat) (es:List PV)
 |map (kk:MK) (g:Nat) (ps:List (IV×IV))
 deriving Inhabited
def one (v:Value):Prop:=v.oneCell'=true
section imm
variable (Q:Nat→Prop) (w:World)
mutual
def aF:IV→Value→Prop
 |.bool b,v=>v=.bool b
 |.int k z,v=>v=.int k z
 |.str s,v=>v=.string s
 |.fn f,v=>v=.func (.func f) #[] #[]
 |.nil,v=>v=.slice none 0 0
 |.np,v=>v=.pointer none
 |.nm,v=>v=.map none
 |.nf,v=>v=.nilFunc
 |.agg cs,v=>∃vs:List Value,v=.agg vs.toArray∧aO cs vs
 |.sl sz es,v=>∃(a:Option Addr) (c:Nat),v=.slice a es.length c∧es.length≤c∧c≤maxLen∧(0 < es.length→∃b off,a=some ⟨b,off,none⟩∧Q b∧dA sz b off es)
 |.clo f cs,v=>∃vs:List Value,v=.func (.func f) #[] vs.toArray∧aO cs vs
 |.ip cs,v=>∃b off vs,v=.pointer (some ⟨b,off,none⟩)∧Q b∧aO cs vs∧∀j u,vs[j]?=some u→w.cell? ⟨b,off+j,none⟩=some u
def aO:List IV→List Value→Prop
 |[],vs=>vs=[]
 |c::cs,vs=>∃v r,vs=v::r∧one v∧aF c v∧aO cs r
def dA (sz b:Nat):Nat→List IV→Prop
 |_,[]=>True
 |off,e::es=>(∃v,aF e v∧v.cells.size=sz∧∀j u,v.cells[j]?=some u→w.cell? ⟨b,off+j,none⟩=some u)∧dA sz b (off+sz) es
end
end imm
structure K where
 ρ:Nat→Value
 G:Nat→Nat
 Q:Nat→Prop
 H:Nat→Option (Nat×Obj)
def base:Value→Option Nat
 |.pointer (some a)=>some a.block
 |.slice (some a) _ _=>some a.block
 |.map (some b)=>some b
 |_=>none
def Sub (sz h n:Nat) (x v:Value):Prop:=∃a c ad len cap,v=.slice a n c∧n≤c∧c≤maxLen∧x=.slice ad len cap∧h+n≤len∧(0 < n→∃b,ad=some ⟨b,0,none⟩∧a=some ⟨b,h*sz,none⟩)
def Ref (k:K) (n r g:Nat) (p:Value→Prop):Prop:=r < n∧g≤k.G r∧(g=k.G r→p (k.ρ r))
section
variable (k:K) (n:Nat) (w:World)
mutual
def Rep:PV→Value→Prop
 |.any,_=>True
 |.imm i,v=>aF k.Q w i v
 |.agg cs,v=>∃vs:List Value,v=.agg vs.toArray∧aT cs vs
 |.tup cs,v=>∃vs:List Value,v=.tuple vs.toArray∧aI cs vs
 |.ptr r g o,v=>one v∧Ref k n r g fun x=>∃b,base x=some b∧v=.pointer (some ⟨b,o,none⟩)
 |.row r g,v=>one v∧Ref k n r g fun x=>v=x
 |.eptr r g sz i o,v=>one v∧Ref k n r g fun x=>∃b,base x=some b∧v=.pointer (some ⟨b,i*sz+o,none⟩)
 |.sub r g sz h m,v=>one v∧Ref k n r g fun x=>Sub sz h m x v
 |.iptr cs,v=>∃b off vs,v=.pointer (some ⟨b,off,none⟩)∧k.Q b∧aO k.Q w cs vs∧∀j u,vs[j]?=some u→w.cell? ⟨b,off+j,none⟩=some u
 |.ful sz es,v=>aF k.Q w (.sl sz es) v∧∃a,v=.slice a es.length es.length
 |.clo f cs,v=>∃vs:List Value,v=.func (.func f) #[] vs.toArray∧aI cs vs
def aT:List PV→List Value→Prop
 |[],vs=>vs=[]
 |c::cs,vs=>∃v r,vs=v::r∧one v∧Rep c v∧aT cs r
def aI:List PV→List Value→Prop
 |[],vs=>vs=[]
 |c::cs,vs=>∃v r,vs=v::r∧Rep c v∧aI cs r
end
end
structure Ext (k:K) (n:Nat) (w:World) (k':K) (n':Nat) (w':World):Prop where
 le:n≤n'
 q:∀b,k.Q b→k'.Q b∧w'.heap[b]?=w.heap[b]?
 r:∀r,r < n→k.G r≤k'.G r∧(k'.G r=k.G r→k'.ρ r=k.ρ r)
theorem Ext.refl (k:K) (n:Nat) (w:World):Ext k n w k n w:=⟨Nat.le_refl _,fun _ h=>⟨h,rfl⟩,fun _ _=>⟨Nat.le_refl _,fun _=>rfl⟩⟩
theorem Ext.trans {k k' k'':K} {n n' n'':Nat} {w w' w'':World} (h:Ext k n w k' n' w') (h':Ext k' n' w' k'' n'' w''):Ext k n w k'' n'' w'':=by
 refine⟨Nat.le_trans h.le h'.le,fun b hb=>?_,fun r hr=>?_⟩
 ·obtain⟨h1,h2⟩:=h.q b hb
  obtain⟨h3,h4⟩:=h'.q b h1
  exact⟨h3,h4.trans h2⟩
 ·obtain⟨h1,h2⟩:=h.r r hr
  obtain⟨h3,h4⟩:=h'.r r (Nat.lt_of_lt_of_le hr h.le)
  refine⟨Nat.le_trans h1 h3,fun e=>?_⟩
  have e1:k'.G r=k.G r:=Nat.le_antisymm (e ▸ h3) h1
  exact (h4 (e.trans e1.symm)).trans (h2 e1)
mutual
theorem aQ {Q Q':Nat→Prop} {w w':World} (h:∀b,Q b→Q' b∧w'.heap[b]?=w.heap[b]?):∀(i:IV) (v:Value),aF Q w i v→aF Q' w' i v
 |.bool _,_,hi=>by simpa[aF]using hi
 |.int _ _,_,hi=>by simpa[aF]using hi
 |.str _,_,hi=>by simpa[aF]using hi
 |.fn _,_,hi=>by simpa[aF]using hi
 |.nil,_,hi=>by simpa[aF]using hi
 |.np,_,hi=>by simpa[aF]using hi
 |.nm,_,hi=>by simpa[aF]using hi
 |.nf,_,hi=>by simpa[aF]using hi
 |.agg cs,v,hi=>by
  unfold aF at hi ⊢
  obtain⟨vs,e,hc⟩:=hi
  exact⟨vs,e,jv h cs vs hc⟩
 |.sl sz es,v,hi=>by
  unfold aF at hi ⊢
  obtain⟨a,c,e,h1,h2,h3⟩:=hi
  refine⟨a,c,e,h1,h2,fun hp=>?_⟩
  obtain⟨b,off,ea,hq,hr⟩:=h3 hp
  exact⟨b,off,ea,(h b hq).1,AP h (h b hq).2 sz off es hr⟩
 |.clo f cs,v,hi=>by
  unfold aF at hi ⊢
  obtain⟨vs,e,hc⟩:=hi
  exact⟨vs,e,jv h cs vs hc⟩
 |.ip cs,v,hi=>by
  unfold aF at hi ⊢
  obtain⟨b,off,vs,e,hq,hc,hj⟩:=hi
  exact⟨b,off,vs,e,(h b hq).1,jv h cs vs hc,fun j u hu=>(World.cell?_of_block (w:=w) (w':=w') (a:=⟨b,off+j,none⟩) (h b hq).2).trans (hj j u hu)⟩
theorem jv {Q Q':Nat→Prop} {w w':World} (h:∀b,Q b→Q' b∧w'.heap[b]?=w.heap[b]?):∀(cs:List IV) (vs:List Value),aO Q w cs vs→aO Q' w' cs vs
 |[],_,hc=>by simpa[aO]using hc
 |c::cs,vs,hc=>by
  unfold aO at hc ⊢
  obtain⟨v,r,e,h1,h2,h3⟩:=hc
  exact⟨v,r,e,h1,aQ h c v h2,jv h cs r h3⟩
theorem AP {Q Q':Nat→Prop} {w w':World} {b:Nat} (h:∀b,Q b→Q' b∧w'.heap[b]?=w.heap[b]?) (hb:w'.heap[b]?=w.heap[b]?) (sz:Nat):∀(off:Nat) (es:List IV),dA Q w sz b off es→dA Q' w' sz b off es
 |_,[],_=>by unfold dA;trivial
 |off,e::es,hr=>by
  unfold dA at hr ⊢
  obtain⟨⟨v,h1,h2,h3⟩,h4⟩:=hr
  exact⟨⟨v,aQ h e v h1,h2,fun j u hj=>(World.cell?_of_block (w:=w) (w':=w') (a:=⟨b,off+j,none⟩) hb).trans (h3 j u hj)⟩,AP h hb sz (off+sz) es h4⟩
end
theorem Ref.mono {k k':K} {n n' r g:Nat} {w w':World} {p:Value→Prop} (h:Ext k n w k' n' w') (hr:Ref k n r g p):Ref k' n' r g p:=by
 obtain⟨h1,h2,h3⟩:=hr
 obtain⟨h4,h5⟩:=h.r r h1
 refine⟨Nat.lt_of_lt_of_le h1 h.le,Nat.le_trans h2 h4,fun e=>?_⟩
 have e1:k'.G r=k.G r:=Nat.le_antisymm (e ▸ h2) h4
 rw[h5 e1]
 exact h3 (e.trans e1)
mutual
theorem aU {k k':K} {n n':Nat} {w w':World} (h:Ext k n w k' n' w'):∀(p:PV) (v:Value),Rep k n w p v→Rep k' n' w' p v
 |.any,_,_=>by unfold Rep;trivial
 |.imm i,v,hp=>by unfold Rep at hp ⊢;exact aQ h.q i v hp
 |.agg cs,v,hp=>by
  unfold Rep at hp ⊢
  obtain⟨vs,e,hc⟩:=hp
  exact⟨vs,e,fT h cs vs hc⟩
 |.tup cs,v,hp=>by
  unfold Rep at hp ⊢
  obtain⟨vs,e,hc⟩:=hp
  exact⟨vs,e,bU h cs vs hc⟩
 |.ptr r g o,v,hp=>by unfold Rep at hp ⊢;exact⟨hp.1,hp.2.mono h⟩
 |.row r g,v,hp=>by unfold Rep at hp ⊢;exact⟨hp.1,hp.2.mono h⟩
 |.eptr r g sz i o,v,hp=>by unfold Rep at hp ⊢;exact⟨hp.1,hp.2.mono h⟩
 |.sub r g sz _ _,v,hp=>by unfold Rep at hp ⊢;exact⟨hp.1,hp.2.mono h⟩
 |.ful sz es,v,hp=>by
  unfold Rep at hp ⊢
  exact⟨aQ h.q _ v hp.1,hp.2⟩
 |.iptr cs,v,hp=>by
  unfold Rep at hp ⊢
  obtain⟨b,off,vs,e,hq,hc,hj⟩:=hp
  exact⟨b,off,vs,e,(h.q b hq).1,jv h.q cs vs hc,fun j u hu=>(World.cell?_of_block (w:=w) (w':=w') (a:=⟨b,off+j,none⟩) (h.q b hq).2).trans (hj j u hu)⟩
 |.clo f cs,v,hp=>by
  unfold Rep at hp ⊢
  obtain⟨vs,e,hc⟩:=hp
  exact⟨vs,e,bU h cs vs hc⟩
theorem fT {k k':K} {n n':Nat} {w w':World} (h:Ext k n w k' n' w'):∀(cs:List PV) (vs:List Value),aT k n w cs vs→aT k' n' w' cs vs
 |[],_,hc=>by simpa[aT]using hc
 |c::cs,vs,hc=>by
  unfold aT at hc ⊢
  obtain⟨v,r,e,h1,h2,h3⟩:=hc
  exact⟨v,r,e,h1,aU h c v h2,fT h cs r h3⟩
theorem bU {k k':K} {n n':Nat} {w w':World} (h:Ext k n w k' n' w'):∀(cs:List PV) (vs:List Value),aI k n w cs vs→aI k' n' w' cs vs
 |[],_,hc=>by simpa[aI]using hc
 |c::cs,vs,hc=>by
  unfold aI at hc ⊢
  obtain⟨v,r,e,h2,h3⟩:=hc
  exact⟨v,r,e,aU h c v h2,bU h cs r h3⟩
end
theorem aB {k:K} {n:Nat} {w:World} {i:IV} {v:Value}:Rep k n w (.imm i) v↔aF k.Q w i v:=by unfold Rep;exact Iff.rfl
theorem dx {k:K} {n:Nat} {w:World} {cs:List PV} {v:Value}:Rep k n w (.agg cs) v↔∃vs:List Value,v=.agg vs.toArray∧aT k n w cs vs:=by
 constructor<;>(intro h;unfold Rep at *;exact h)
theorem bG {Q:Nat→Prop} {w:World} {cs:List IV} {v:Value}:aF Q w (.agg cs) v↔∃vs:List Value,v=.agg vs.toArray∧aO Q w cs vs:=by
 constructor<;>(intro h;unfold aF at *;exact h)
theorem bg (k:K) (n:Nat) (w:World) (v:Value):Rep k n w .any v:=by unfold Rep;trivial
def aG:List IV→List CK→Bool
 |[],[]=>true
 |.int k _::is,.int k'::ks=>decide (k=k')&&aG is ks
 |.str _::is,.str::ks=>aG is ks
 |.bool _::is,.bool::ks=>aG is ks
 |_,_=>false
def eqC:List IV→List IV→Bool
 |.int _ a::is,.int _ b::js=>decide (a=b)&&eqC is js
 |.str a::is,.str b::js=>decide (a=b)&&eqC is js
 |.bool a::is,.bool b::js=>(a == b)&&eqC is js
 |_,_=>true
def dH:MK→IV→Bool
 |.int k,.int k' _=>decide (k=k')
 |.str,.str _=>true
 |.bool,.bool _=>true
 |.cells _ ks,.agg cs=>aG cs ks
 |_,_=>false
def d9 (kk:MK):List (IV×IV)→Bool
 |[]=>true
 |p::ps=>dH kk p.1&&d9 kk ps
def eqI:IV→IV→Bool
 |.int _ a,.int _ b=>decide (a=b)
 |.str a,.str b=>decide (a=b)
 |.bool a,.bool b=>a == b
 |.agg a,.agg b=>eqC a b
 |_,_=>false
def fB:List (IV×IV)→IV→Option IV
 |[],_=>none
 |(x,y)::ps,a=>if eqI x a then some y else fB ps a
def dS:List (IV×IV)→IV→IV→List (IV×IV)
 |[],a,b=>[(a,b)]
 |(x,y)::ps,a,b=>if eqI x a then (x,b)::ps else (x,y)::dS ps a b
def yJ:List (IV×IV)→IV→List (IV×IV)
 |[],_=>[]
 |(x,y)::ps,a=>if eqI x a then ps else (x,y)::yJ ps a
def dB (Q:Nat→Prop) (w:World):List (IV×IV)→List MapEntry→Prop
 |[],es=>es=[]
 |(a,b)::ps,es=>∃e r,es=e::r∧aF Q w a e.key∧aF Q w b e.val∧dB Q w ps r
def lQ (N:Nat) (Q:Nat→Prop) (w:World) (v:Value) (b:Bool) (ps:List (IV×IV)):Prop:=
 ∃ib m es clock seen,v=.pointer (some ⟨ib,0,none⟩)∧N≤ib∧w.heap[ib]?=some (.mapIter (some m) clock seen clock)∧Q m∧w.heap[m]?=some (.map es clock)∧MapKept.Stamped es clock∧
  match b with
  |false=>dB Q w ps (leftOf es seen).toList
  |true=>∃(p:IV×IV) (l:List (IV×IV)) (e:MapEntry),ps=p::l∧dB Q w l (leftOf es seen).toList∧e∈es.toList∧(∃seen':Array Nat,seen=seen'.push e.born)∧aF Q w p.1 e.key∧aF Q w p.2 e.val
def aL (k:K) (n:Nat) (w:World) (sz:Nat):List PV→List Value→Prop
 |[],xs=>xs=[]
 |e::es,xs=>∃v r,xs=v.cells.toList++r∧v.cells.size=sz∧(∀u∈v.cells.toList,one u)∧Rep k n w e v∧aL k n w sz es r
def BL (N:Nat) (k:K) (n:Nat) (w:World) (m:Nat) (e:TypeId) (sz:Nat) (is:List IV) (v:Value) (b:Nat):Prop:=
 base v=some b∧(∃o,k.H b=some (m,o))∧∃xs,w.ownsRow N e sz v is.length xs∧aL k n w sz (is.map .imm) xs
def bF (N:Nat) (k:K) (n:Nat) (w:World) (m:Nat) (e:TypeId) (sz:Nat) (out:Option (Nat×Nat×Nat)):Nat→List (IV×IV)→List MapEntry→List Nat→Prop
 |_,[],es,bs=>es=[]∧bs=[]
 |i,(a,x)::ps,es,bs=>∃en r,es=en::r∧aF k.Q w a en.key∧
   ((∃j g,out=some (i,j,g)∧Rep k n w (.row j g) en.val∧bF N k n w m e sz out (i+1) ps r bs)∨
    ((∀j g,out≠some (i,j,g))∧∃b bs' is,bs=b::bs'∧b∉bs'∧x=.sl sz is∧BL N k n w m e sz is en.val b∧bF N k n w m e sz out (i+1) ps r bs'))
def QA (N:Nat) (k:K) (n:Nat) (w:World) (v:Value) (kk:MK) (e:TypeId) (sz:Nat) (out:Option (Nat×Nat×Nat)) (ps:List (IV×IV)):Prop:=
 ∃b es clock bs,v=.map (some b)∧N≤b∧w.heap[b]?=some (.map es clock)∧bF N k n w b e sz out 0 ps es.toList bs∧d9 kk ps=true∧MapKept.Stamped es clock
def dz (N:Nat) (k:K) (n:Nat) (w:World) (v:Value) (kk:MK) (ps:List (IV×IV)):Prop:=
 match kk with
 |.iter b=>lQ N k.Q w v b ps
 |.rows kk e sz out=>QA N k n w v kk e sz out ps
 |kk=>∃b es clock,v=.map (some b)∧N≤b∧w.heap[b]?=some (.map es clock)∧dB k.Q w ps es.toList∧d9 kk ps=true∧MapKept.Stamped es clock
def gF:MK→Bool
 |.iter _=>true
 |.rows _ _ _ _=>true
 |_=>false
def xS:MK→Bool
 |.rows _ _ _ _=>true
 |_=>false
def allIn:MK→Bool
 |.rows _ _ _ (some _)=>false
 |_=>true
theorem fJ {N:Nat} {k:K} {n:Nat} {w:World} {v:Value} {kk:MK} {ps:List (IV×IV)} (h:gF kk=false):dz N k n w v kk ps↔∃b es clock,v=.map (some b)∧N≤b∧w.heap[b]?=some (.map es clock)∧dB k.Q w ps es.toList∧d9 kk ps=true∧MapKept.Stamped es clock:=by
 cases kk<;>first|exact Iff.rfl|cases h
theorem eF {Q Q':Nat→Prop} {w w':World} (h:∀b,Q b→Q' b∧w'.heap[b]?=w.heap[b]?):∀(ps:List (IV×IV)) (es:List MapEntry),dB Q w ps es→dB Q' w' ps es
 |[],_,hc=>by simpa[dB]using hc
 |(a,b)::ps,es,hc=>by
  unfold dB at hc ⊢
  obtain⟨e,r,h0,h1,h2,h3⟩:=hc
  exact⟨e,r,h0,aQ h a _ h1,aQ h b _ h2,eF h ps r h3⟩
theorem lQ.mono {N:Nat} {Q Q':Nat→Prop} {w w':World} {v:Value} {b:Bool} {ps:List (IV×IV)} (hm:lQ N Q w v b ps) (h:∀b,Q b→Q' b∧w'.heap[b]?=w.heap[b]?) (hb:∀b,base v=some b→w'.heap[b]?=w.heap[b]?):lQ N Q' w' v b ps:=by
 obtain⟨ib,m,es,clock,seen,h1,h2,h3,h4,h5,h6,h7⟩:=hm
 refine⟨ib,m,es,clock,seen,h1,h2,(hb ib (by rw[h1];rfl)).trans h3,(h m h4).1,(h m h4).2.trans h5,h6,?_⟩
 cases b with
 |false=>exact eF h ps _ h7
 |true=>
  obtain⟨p,l,e,g1,g2,g3,g4,g5,g6⟩:=h7
  exact⟨p,l,e,g1,eF h l _ g2,g3,g4,aQ h _ _ g5,aQ h _ _ g6⟩
structure Env where
 gl:Nat→Option (List IV)
 R:World→Prop
 st:∀w w',R w→Below w.heap.size w w'→R w'
structure Ctx where
 N:Nat
 w0:World
 X:Env
 Q0:Nat→Prop
 eqT:TypeId→Option (List CK)
 F:Nat→Prop
 w1:World
 k0:K
 n0:Nat
def nW (Γ:Ctx) (k:K) (n:Nat) (w:World) (r:Nat):Blk→Prop
 |.dead g=>k.G r=g
 |.box g cs t=>k.G r=g∧∃b c ty,k.ρ r=.pointer (some ⟨b,0,none⟩)∧Γ.N≤b∧w.heap[b]?=some (.cells c (t.getD ty) (0,0))∧aT k n w cs c.toList
 |.row e sz g es=>k.G r=g∧∃xs,w.ownsRow Γ.N e sz (k.ρ r) es.length xs∧aL k n w sz es xs
 |.map kk g ps=>k.G r=g∧dz Γ.N k n w (k.ρ r) kk ps
def own (k:K) (r:Nat):Blk→Option Nat
 |.dead _=>none
 |_=>base (k.ρ r)
def held (R:World→Prop) (N:Nat) (w:World):Prop:=∃w1,R w1∧w1.heap.size≤N∧Below w1.heap.size w1 w
theorem held.below {R:World→Prop} {N:Nat} {w w':World} (h:held R N w) (hb:Below N w w'):held R N w':=by
 obtain⟨w1,h1,h2,h3⟩:=h
 exact⟨w1,h1,h2,h3.trans (hb.mono h2)⟩
def kept (Γ:Ctx) (k:K) (b:Nat):Prop:=Γ.F b∨k.H b≠none
theorem fK {Γ:Ctx} {k:K} {b:Nat} {p:Nat×Obj} (h:k.H b=some p):kept Γ k b:=Or.inr (by rw[h];simp)
open Classical in
noncomputable def memo (Γ:Ctx) (k:K) (b:Nat):Option Obj:=if Γ.F b then Γ.w1.heap[b]? else (k.H b).map Prod.snd
structure Keeps (Γ:Ctx) (k:K) (n:Nat) (w:World):Prop where
 fr:∀b,kept Γ k b→b < w.heap.size∧w.heap[b]?=memo Γ k b∧¬k.Q b
 ext:Ext Γ.k0 Γ.n0 Γ.w1 k n w
structure Inv (Γ:Ctx) (k:K) (B:List Blk) (w:World):Prop where
 below:Below Γ.N Γ.w0 w
 lt:∀b,k.Q b→b < w.heap.size
 le:Γ.N≤w.heap.size
 qs:∀b,k.Q b→Γ.Q0 b∨Γ.N≤b
 rr:held Γ.X.R Γ.N w
 gl:∀g cs,Γ.X.gl g=some cs→Rep k B.length w (.iptr cs) (.pointer (some ⟨g,0,none⟩))
 blk:∀r x,B[r]?=some x→nW Γ k B.length w r x
 sep:∀r x b,B[r]?=some x→own k r x=some b→¬k.Q b∧Γ.N≤b∧b < w.heap.size
 inj:∀r r' x x' b,B[r]?=some x→B[r']?=some x'→own k r x=some b→own k r' x'=some b→r=r'
 kp:Keeps Γ k B.length w
 nf:∀r x b,B[r]?=some x→own k r x=some b→¬kept Γ k b
 hn:∀b p,k.H b=some p→¬Γ.F b∧Γ.N≤b
structure St where
 E:List PV
 B:List Blk
def γ (Γ:Ctx) (s:St) (a:Act) (w:World):Prop:=a.defers=[]∧∃k,Inv Γ k s.B w∧aI k s.B.length w s.E a.tmps.toList
end Go.Pv
namespace Go.Pv
inductive TK
 |int (k:IntKind)|str|bool|ptr (e:TypeId)|struct (fs:List (Nat×Nat×Bool))|slice (e:TypeId) (sz bytes:Nat)|map (k e:TypeId)|fn|arr (n:Nat) (e:TypeId) (sz:Nat)|other
 deriving Inhabited
structure TD where
 agg:Bool
 size:Nat
 zero:List IV
 kind:TK
 deriving Inhabited
def oZ:Value→Option IV
 |.bool b=>some (.bool b)
 |.int k z=>some (.int k z)
 |.string s=>some (.str s)
 |.slice none 0 0=>some .nil
 |.func (.func f) a b=>if a.size=0∧b.size=0 then some (.fn f) else none
 |.pointer none=>some .np
 |.map none=>some .nm
 |.nilFunc=>some .nf
 |_=>none
def rJ:TypeDesc→Bool
 |.struct _|.array _ _=>true
 |_=>false
def Qc:Value→Bool
 |.agg _=>true
 |_=>false
def fC:List Value→Option (List IV)
 |[]=>some []
 |v::r=>match oZ v,fC r with
  |some i,some is=>some (i::is)
  |_,_=>none
def fieldsOf (P:Program):List Field→Option (List (Nat×Nat×Bool))
 |[]=>some []
 |f::r=>match P.info? f.type,P.underlying f.type,fieldsOf P r with
  |some i,some u,some fs=>some ((f.offset,i.size,rJ u)::fs)
  |_,_,_=>none
def kindOf (P:Program):TypeDesc→Option TK
 |.int k=>some (.int k)
 |.string=>some .str
 |.bool=>some .bool
 |.struct fs=>(fieldsOf P fs.toList).map .struct
 |.slice e=>(P.info? e).map fun i=>.slice e i.size i.bytes
 |.pointer e=>some (.ptr e)
 |.map k e=>some (.map k e)
 |.func _ _ _=>some .fn
 |.array n e=>(P.info? e).map fun i=>.arr n e i.size
 |_=>some .other
def Ra:TK→Option Nat
 |.arr n _ 1=>some n
 |_=>none
def aJ (P:Program) (t:TypeId):Option TD:=
 match P.info? t,P.underlying t with
 |some i,some u=>match i.zero with
  |some z=>match fC z.cells.toList,kindOf P u with
   |some zs,some k=>if Qc z=rJ u∧zs.length=i.size then some ⟨rJ u,i.size,zs,k⟩ else none
   |_,_=>none
  |none=>none
 |_,_=>none
def jD:IV→List IV
 |.agg cs=>cs
 |i=>[i]
def bZ:PV→Option (List PV)
 |.any=>none
 |.tup _=>none
 |.agg cs=>some cs
 |.imm i=>some ((jD i).map .imm)
 |p=>some [p]
def kH:List PV→Option (List IV)
 |[]=>some []
 |.imm i::r=>match kH r with
  |some is=>some (i::is)
  |none=>none
 |_::_=>none
def norm:PV→PV
 |.agg cs=>match kH cs with
  |some is=>.imm (.agg is)
  |none=>.agg cs
 |p=>p
def elems:PV→Option (List IV)
 |.imm .nil=>some []
 |.imm (.sl _ es)=>some es
 |_=>none
def qY:Value→Option IV
 |.agg vs=>match fC vs.toList with
  |some cs=>some (.agg cs)
  |none=>none
 |v=>oZ v
def Ik (v:Value):PV:=match qY v with
 |some i=>.imm i
 |none=>.any
structure Orc where
 reads:List Nat
 res:PV
 ws:List (Nat×Blk)
structure Ob where
 f:FuncId
 args:List PV
 rs:List (Nat×Blk)
 res:PV
 ws:List (Nat×Blk)
structure Out where
 v:PV
 ws:List (Nat×Blk)
 ob:Option Ob
def val (v:PV):Option Out:=some ⟨v,[],none⟩
def most:Nat:=1000000000
abbrev Room (bytes n:Nat):Prop:=n≤most∨(n≤140737488355328∧n*bytes≤140737488355328)
def Dc (op:BinOp) (k:IntKind) (a b:Int):Option IV:=
 match op with
 |.add=>some (.int k (k.wrap (a+b)))
 |.sub=>some (.int k (k.wrap (a - b)))
 |.mul=>some (.int k (k.wrap (a*b)))
 |.eql=>some (.bool (a == b))
 |.neq=>some (.bool (a != b))
 |.lss=>some (.bool (decide (a < b)))
 |.leq=>some (.bool (decide (a≤b)))
 |.gtr=>some (.bool (decide (a > b)))
 |.geq=>some (.bool (decide (a≥b)))
 |.quo=>if b=0 then none else some (.int k (k.wrap (a.tdiv b)))
 |.rem=>if b=0 then none else some (.int k (a.tmod b))
 |.and=>some (.int k (k.wrap (BitVec.ofInt k.bits a &&& BitVec.ofInt k.bits b).toNat))
 |.or=>some (.int k (k.wrap (BitVec.ofInt k.bits a ||| BitVec.ofInt k.bits b).toNat))
 |.xor=>some (.int k (k.wrap (BitVec.ofInt k.bits a ^^^ BitVec.ofInt k.bits b).toNat))
 |_=>none
def gY (a b:ByteArray):Bool:=Op.bytesLess a.data.toList b.data.toList
def Cr (op:BinOp) (a b:ByteArray):Option IV:=
 match op with
 |.eql=>some (.bool (decide (a=b)))
 |.neq=>some (.bool (!decide (a=b)))
 |.add=>if a.size+b.size≤most then some (.str (a++b)) else none
 |.lss=>some (.bool (gY a b))
 |.leq=>some (.bool (gY a b||decide (a=b)))
 |.gtr=>some (.bool (!(gY a b||decide (a=b))))
 |.geq=>some (.bool (!gY a b))
 |_=>none
def qo (op:BinOp) (k:IntKind) (a b:Int):Option IV:=
 match op with
 |.shl=>if b < 0 then none else some (.int k (k.wrap (a*2 ^ (min b.toNat k.bits))))
 |.shr=>if b < 0 then none else some (.int k (a.fdiv (2 ^ (min b.toNat k.bits))))
 |_=>none
def Jj:BinOp→Bool
 |.shl|.shr=>true
 |_=>false
def Oe:PV→Option UInt8
 |.imm (.int .u8 z)=>if 0≤z∧z < 256 then some (UInt8.ofNat z.toNat) else none
 |_=>none
def dX:List PV→Option (List UInt8)
 |[]=>some []
 |p::r=>match Oe p,dX r with
  |some b,some bs=>some (b::bs)
  |_,_=>none
def IB (op:BinOp):PV→PV→Option IV
 |.imm (.int k a),.imm (.int k' b)=>if Jj op then qo op k a b else if k=k' then Dc op k a b else none
 |.imm (.str a),.imm (.str b)=>Cr op a b
 |_,_=>none
def kg (cs:List PV) (off size:Nat) (agg:Bool):Option PV:=
 if agg then (if off+size≤cs.length then some (norm (.agg ((cs.drop off).take size))) else none) else cs[off]?
def qR (cs:List IV) (off size:Nat) (agg:Bool):Option IV:=
 if agg then (if off+size≤cs.length then some (.agg ((cs.drop off).take size)) else none) else cs[off]?
def xP (fs:List (Nat×Nat×Bool)) (cs:List PV):List (Nat×PV)→Option (List PV)
 |[]=>some cs
 |(i,p)::r=>match fs[i]?,bZ p with
  |some (fo,fz,_),some ps=>if ps.length=fz∧fo+fz≤cs.length then xP fs (cs.take fo++ps++cs.drop (fo+fz)) r else none
  |_,_=>none
def su (i:Nat):List (Nat×PV)→Option (List PV)
 |[]=>some []
 |(j,p)::r=>if i=j then (match su (i+1) r with
  |some ps=>some (p::ps)
  |none=>none) else none
def vQ (sz:Nat):List PV→Bool
 |[]=>true
 |p::ps=>(match bZ p with
  |some cs=>decide (cs.length=sz)
  |none=>false)&&vQ sz ps
def bound (ev:Operand→PV) (x:Option Operand) (d:Nat):Option Int:=
 match x with
 |none=>some d
 |some y=>match ev y with
  |.imm (.int _ i)=>some i
  |_=>none
def mG (get:Nat→Option Blk) (sz:Nat):PV→Option (List PV)
 |.imm .nil=>some []
 |.imm (.sl sz' es)=>if sz=sz' then some (es.map .imm) else none
 |.row r g=>match get r with
  |some (.row _ sz' g' es)=>if g=g'∧sz=sz' then some es else none
  |_=>none
 |.sub r g sz' q m=>match get r with
  |some (.row _ sz2 g' es)=>if g=g'∧sz=sz'∧sz=sz2∧q+m≤es.length then some ((es.drop q).take m) else none
  |_=>none
 |_=>none
def zR (p:PV) (cs:List PV):PV:=
 match p with
 |.agg _=>norm (.agg cs)
 |.imm (.agg _)=>norm (.agg cs)
 |_=>match cs with
  |[c]=>c
  |_=>.any
def iY:List PV→Option (List IV)
 |[]=>some []
 |.iptr cs::r=>(iY r).map fun is=>.ip cs::is
 |.imm (.str s)::r=>(iY r).map fun is=>.str s::is
 |.imm (.int k z)::r=>(iY r).map fun is=>.int k z::is
 |.imm (.bool b)::r=>(iY r).map fun is=>.bool b::is
 |.imm (.sl sz es)::r=>(iY r).map fun is=>.sl sz es::is
 |.imm .nil::r=>(iY r).map fun is=>.nil::is
 |.imm (.fn f)::r=>(iY r).map fun is=>.fn f::is
 |_=>none
def toI:PV→Option IV
 |.imm i=>some i
 |.clo f cs=>(iY cs).map fun is=>.clo f is
 |_=>none
def ofC:IV→PV
 |.ip cs=>.iptr cs
 |i=>.imm i
def pF (T:TypeId→Option (List CK)) (t:TypeId):TD→Option MK
 |⟨_,_,_,.int k⟩=>some (.int k)
 |⟨_,_,_,.str⟩=>some .str
 |⟨_,_,_,.bool⟩=>some .bool
 |⟨_,_,_,.struct _⟩=>(T t).map (.cells t)
 |_=>none
def eu (d:TD):IV:=if d.agg then .agg d.zero else d.zero.headD .nil
def lookO (ok:Bool) (z:IV) (x:Option IV):PV:=if ok then .tup [.imm (x.getD z),.imm (.bool x.isSome)] else .imm (x.getD z)
def OY (r:Nat):PV→Bool
 |.row r' _=>decide (r≠r')
 |.sub r' _ _ _ _=>decide (r≠r')
 |_=>true
def u8B (d:TD):Bool:=!d.agg&&(match d.kind with
 |.int .u8=>true
 |_=>false)&&(match d.zero with
 |[.int .u8 z]=>decide (z=0)
 |_=>false)
def EY (b:ByteArray):List PV:=(b.data.toList.map fun c=>IV.int .u8 (c.toNat:Int)).map .imm
def O8 (P:Program) (id:Nat) (get:Nat→Option Blk) (e:TypeId) (sz bytes:Nat) (ts:Array TypeId) (s x:PV):Option Out:=
 match aJ P e,aJ P (ts.getD 1 0),x with
 |some d,some ⟨_,_,_,.str⟩,.imm (.str b)=>if u8B d=true∧sz=1∧bytes=1∧ts.size=2 then (match s with
  |.imm .nil=>match get id with
   |some (.dead g)=>if b.size≤most then some ⟨.row id (g+1),[(id,.row e 1 (g+1) (EY b))],none⟩ else none
   |_=>none
  |.row r g=>match get r with
   |some (.row e' sz' g' es)=>if g=g'∧e=e'∧sz'=1∧es.length+b.size≤most then some ⟨.row r (g+1),[(r,.row e 1 (g+1) (es++EY b))],none⟩ else none
   |_=>none
  |_=>none) else none
 |_,_,_=>none
def Sg (t:TypeId) (d:TD):Option TypeId:=match d.zero with
 |[.np,.nil]=>some t
 |_=>none
def iK:List (IV×IV)→IV→Option Nat
 |[],_=>none
 |(x,_)::ps,a=>if eqI x a then some 0 else (iK ps a).map (·+1)
def JY (kk:MK) (a:IV) (z:IV) (ps:List (IV×IV)):MK→Option Out
 |.rows k2 _ _ o=>if kk=k2 then (match o,iK ps a with
  |_,none=>val (.imm z)
  |some (i,j,g),some i'=>if i=i' then val (.row j g) else none
  |none,some _=>none) else none
 |_=>none
def KU (kk:Option MK) (r g:Nat) (a:IV) (get:Nat→Option Blk):PV→Option Out
 |.row j gj=>match get r,get j,kk with
  |some (.map (.rows k2 e sz o) g' ps),some (.row e' sz' gj' es),some kk=>if g=g'∧kk=k2∧dH kk a=true∧e=e'∧sz=sz'∧gj=gj'∧r≠j then (match kH es,o,iK ps a with
   |some (i0::is),none,none=>some ⟨.any,[(r,.map (.rows k2 e sz none) g (dS ps a (.sl sz (i0::is)))),(j,.dead gj)],none⟩
   |some (i0::is),some (i,j',_),some i'=>if i=i'∧j=j' then some ⟨.any,[(r,.map (.rows k2 e sz none) g (dS ps a (.sl sz (i0::is)))),(j,.dead gj)],none⟩ else none
   |_,_,_=>none) else none
  |_,_,_=>none
 |_=>none
def ak (P:Program) (T:TypeId→Option (List CK)) (o:Oper) (id:Nat) (ev:Operand→PV) (get:Nat→Option Blk) (cr:List Orc):Option Out:=
 match o.op with
 |.move x|.assign x=>val (ev x)
 |.pick c a b=>match ev c with
  |.imm (.bool t)=>val (if t then ev a else ev b)
  |_=>none
 |.alloc t=>match aJ P t,get id with
  |some d,some (.dead g)=>match Ra d.kind with
   |some n=>if n=d.zero.length∧0 < n∧n≤most then some ⟨.eptr id (g+1) 1 0 0,[(id,.row t 1 (g+1) (d.zero.map .imm))],none⟩ else none
   |none=>some ⟨.ptr id (g+1) 0,[(id,.box (g+1) (d.zero.map .imm) (Sg t d))],none⟩
  |_,_=>none
 |.box _ x=>match bZ (ev x),get id with
  |some cs,some (.dead g)=>some ⟨.ptr id (g+1) 0,[(id,.box (g+1) cs)],none⟩
  |_,_=>none
 |.load t x=>match aJ P t,ev x with
  |some d,.ptr r g off=>match get r with
   |some (.box g' cs _)=>if g=g' then (kg cs off d.size d.agg).bind val else none
   |_=>none
  |some d,.eptr r g sz i off=>match get r with
   |some (.row _ sz' g' es)=>if g=g'∧sz=sz' then (match es[i]? with
    |some p=>(match bZ p with
     |some cs=>(kg cs off d.size d.agg).bind val
     |none=>none)
    |none=>none) else none
   |_=>none
  |some d,.iptr cs=>(qR cs 0 d.size d.agg).bind fun i=>val (.imm i)
  |_,_=>none
 |.store t x y=>match aJ P t,ev x,bZ (ev y) with
  |some d,.ptr r g off,some ys=>match get r with
   |some (.box g' cs t')=>if g=g'∧ys.length=d.size∧off+d.size≤cs.length then some ⟨.any,[(r,.box g (cs.take off++ys++cs.drop (off+d.size)) t')],none⟩ else none
   |_=>none
  |some d,.eptr r g sz i off,some ys=>match get r with
   |some (.row e sz' g' es)=>if g=g'∧sz=sz'∧ys.length=d.size then (match es[i]? with
    |some p=>(match bZ p with
     |some cs=>if off+d.size≤cs.length then some ⟨.any,[(r,.row e sz g (es.set i (zR p (cs.take off++ys++cs.drop (off+d.size)))))],none⟩ else none
     |none=>none)
    |none=>none) else none
   |_=>none
  |_,_,_=>none
 |.nilCheck x=>match ev x with
  |.ptr r g off=>match get r with
   |some (.box g' _ _)=>if g=g' then val (.ptr r g off) else none
   |_=>none
  |.iptr cs=>val (.iptr cs)
  |.clo f cs=>val (.clo f cs)
  |.imm (.fn f)=>val (.imm (.fn f))
  |.imm (.clo f cs)=>val (.imm (.clo f cs))
  |_=>none
 |.binOp op t x y _=>match ev x,ev y,T t with
  |.imm (.agg is),.imm (.agg js),some ks=>if aG is ks∧aG js ks then (match op with
   |.eql=>val (.imm (.bool (eqC is js)))
   |.neq=>val (.imm (.bool (!eqC is js)))
   |_=>none) else none
  |.imm (.bool a),.imm (.bool b),_=>(match aJ P t with
   |some ⟨_,_,_,.bool⟩=>(match op with
    |.eql=>val (.imm (.bool (a == b)))
    |.neq=>val (.imm (.bool (!(a == b))))
    |_=>none)
   |_=>none)
  |.ptr r g _,.imm .np,_=>(match aJ P t,get r with
   |some ⟨_,_,_,.ptr _⟩,some (.box g' _ _)=>if g=g' then (match op with
    |.eql=>val (.imm (.bool false))
    |.neq=>val (.imm (.bool true))
    |_=>none) else none
   |_,_=>none)
  |.imm .np,.imm .np,_=>(match aJ P t with
   |some ⟨_,_,_,.ptr _⟩=>(match op with
    |.eql=>val (.imm (.bool true))
    |.neq=>val (.imm (.bool false))
    |_=>none)
   |_=>none)
  |.clo _ _,.imm .nf,_=>(match aJ P t with
   |some ⟨_,_,_,.fn⟩=>(match op with
    |.eql=>val (.imm (.bool false))
    |.neq=>val (.imm (.bool true))
    |_=>none)
   |_=>none)
  |.imm (.fn _),.imm .nf,_=>(match aJ P t with
   |some ⟨_,_,_,.fn⟩=>(match op with
    |.eql=>val (.imm (.bool false))
    |.neq=>val (.imm (.bool true))
    |_=>none)
   |_=>none)
  |.imm .nf,.imm .nf,_=>(match aJ P t with
   |some ⟨_,_,_,.fn⟩=>(match op with
    |.eql=>val (.imm (.bool true))
    |.neq=>val (.imm (.bool false))
    |_=>none)
   |_=>none)
  |.imm .nil,.imm .nil,_=>(match aJ P t with
   |some ⟨_,_,_,.slice _ _ _⟩=>(match op with
    |.eql=>val (.imm (.bool true))
    |.neq=>val (.imm (.bool false))
    |_=>none)
   |_=>none)
  |.imm (.sl _ (_::_)),.imm .nil,_=>(match aJ P t with
   |some ⟨_,_,_,.slice _ _ _⟩=>(match op with
    |.eql=>val (.imm (.bool false))
    |.neq=>val (.imm (.bool true))
    |_=>none)
   |_=>none)
  |.row r g,.imm .nil,_=>(match aJ P t,get r with
   |some ⟨_,_,_,.slice _ _ _⟩,some (.row _ _ g' (_::_))=>if g=g' then (match op with
    |.eql=>val (.imm (.bool false))
    |.neq=>val (.imm (.bool true))
    |_=>none) else none
   |_,_=>none)
  |p,q,_=>(IB op p q).bind fun i=>val (.imm i)
 |.unOp op _ x=>match op,ev x with
  |.not,.imm (.bool b)=>val (.imm (.bool (!b)))
  |.neg,.imm (.int k a)=>val (.imm (.int k (k.wrap (0 - a))))
  |_,_=>none
 |.fieldAddr s x f=>match aJ P s,ev x with
  |some ⟨_,_,_,.struct fs⟩,.ptr r g off=>match fs[f]? with
   |some (fo,fz,_)=>match get r with
    |some (.box g' _ _)=>if fz≠0∧g=g' then val (.ptr r g (off+fo)) else none
    |_=>none
   |none=>none
  |some ⟨_,_,_,.struct fs⟩,.eptr r g sz i off=>match fs[f]? with
   |some (fo,fz,_)=>match get r with
    |some (.row _ _ g' _)=>if fz≠0∧g=g' then val (.eptr r g sz i (off+fo)) else none
    |_=>none
   |none=>none
  |some ⟨_,_,_,.struct fs⟩,.iptr cs=>match fs[f]? with
   |some (fo,fz,_)=>if fz=0 then none else val (.iptr (cs.drop fo))
   |none=>none
  |_,_=>none
 |.field t x f=>match aJ P t,ev x with
  |some ⟨_,_,_,.struct fs⟩,.imm (.agg cs)=>match fs[f]? with
   |some (fo,fz,fa)=>(qR cs fo fz fa).bind fun i=>val (.imm i)
   |none=>none
  |some ⟨_,_,_,.struct fs⟩,.agg ps=>match fs[f]? with
   |some (fo,_,false)=>(ps[fo]?).bind val
   |_=>none
  |_,_=>none
 |.indexAddr t x ix=>match aJ P t,ev x,ev ix with
  |some ⟨_,_,_,.slice _ sz _⟩,.imm (.sl sz' es),.imm (.int _ i)=>if sz=sz'∧0≤i then (es[i.toNat]?).bind fun e=>val (.iptr (jD e)) else none
  |some ⟨_,_,_,.slice _ sz _⟩,.row r g,.imm (.int _ i)=>match get r with
   |some (.row _ sz' g' es)=>if g=g'∧sz=sz'∧0≤i∧i.toNat < es.length then val (.eptr r g sz i.toNat 0) else none
   |_=>none
  |some ⟨_,_,_,.slice _ sz _⟩,.sub r g sz' q m,.imm (.int _ i)=>match get r with
   |some (.row _ sz2 g' _)=>if g=g'∧sz=sz'∧sz=sz2∧0≤i∧i.toNat < m then val (.eptr r g sz (q+i.toNat) 0) else none
   |_=>none
  |some ⟨_,_,_,.arr n _ sz⟩,.eptr r g sz' i0 o,.imm (.int _ i)=>match get r with
   |some (.row _ sz2 g' es)=>if g=g'∧sz=sz'∧sz=sz2∧i0=0∧o=0∧n=es.length∧0≤i∧i.toNat < es.length then val (.eptr r g sz i.toNat 0) else none
   |_=>none
  |some ⟨_,_,_,.arr n _ sz⟩,.iptr cs,.imm (.int _ i)=>if 0≤i∧i.toNat < n then val (.iptr (cs.drop (i.toNat*sz))) else none
  |_,_,_=>none
 |.index t x ix=>match aJ P t,ev x,ev ix with
  |some ⟨_,_,_,.str⟩,.imm (.str s),.imm (.int _ i)=>if 0≤i then (s.data[i.toNat]?).bind fun b=>val (.imm (.int .u8 b.toNat)) else none
  |_,_,_=>none
 |.build t parts=>match aJ P t with
  |some ⟨_,_,zs,.struct fs⟩=>(xP fs (zs.map .imm) (parts.toList.map fun x=>(x.1,ev x.2))).bind fun cs=>val (norm (.agg cs))
  |_=>none
 |.buildSlice t n parts=>match aJ P t,get id,su 0 (parts.toList.map fun x=>(x.1,ev x.2)) with
  |some ⟨_,_,_,.slice e sz _⟩,some (.dead g),some ps=>if n=ps.length∧(aJ P e).isSome=true∧0 < sz∧n*sz≤16000000∧vQ sz ps then some ⟨.row id (g+1),[(id,.row e sz (g+1) ps)],none⟩ else none
  |_,_,_=>none
 |.slice t x lo hi none=>match aJ P t,ev x,bound ev lo 0 with
  |some ⟨_,_,_,.str⟩,.imm (.str s),some l=>match bound ev hi s.size with
   |some h=>if 0≤l∧l≤h∧h≤s.size then val (.imm (.str (s.extract l.toNat h.toNat))) else none
   |none=>none
  |some ⟨_,_,_,.slice _ sz _⟩,.imm (.sl sz' es),some l=>match bound ev hi es.length with
   |some h=>if sz=sz'∧0≤l∧l≤h∧h≤es.length then val (.imm (.sl sz ((es.drop l.toNat).take (h.toNat - l.toNat)))) else none
   |none=>none
  |some ⟨_,_,_,.slice _ sz _⟩,.row r g,some l=>match get r with
   |some (.row e sz' g' es)=>(match lo with
    |some _=>(match bound ev hi es.length with
     |some h=>if g=g'∧sz=sz'∧0≤l∧l≤h∧h≤es.length then val (.sub r g sz l.toNat (h.toNat - l.toNat)) else none
     |none=>none)
    |none=>(match bound ev hi es.length with
     |some h=>if g=g'∧sz=sz'∧l=0∧0≤h∧h≤es.length then some ⟨.row r (g+1),[(r,.row e sz (g+1) (es.take h.toNat))],none⟩ else none
     |none=>none))
   |_=>none
  |some ⟨_,_,_,.slice _ sz _⟩,.sub r g sz' q m,some l=>match get r with
   |some (.row _ sz2 g' _)=>(match bound ev hi (m:Nat) with
    |some h=>if g=g'∧sz=sz'∧sz=sz2∧0≤l∧l≤h∧h≤m then val (.sub r g sz (q+l.toNat) (h.toNat - l.toNat)) else none
    |none=>none)
   |_=>none
  |some ⟨_,_,_,.arr n _ sz⟩,.eptr r g sz' i0 o,some l=>match get r with
   |some (.row _ sz2 g' es)=>(match hi with
    |none=>if g=g'∧sz=sz'∧sz=sz2∧i0=0∧o=0∧n=es.length∧0≤l∧l≤es.length then val (.sub r g sz l.toNat (es.length - l.toNat)) else none
    |some _=>none)
   |_=>none
  |_,_,_=>none
 |.slice t x lo (some y) (some mx)=>match aJ P t,ev x,bound ev lo 0,ev y,ev mx with
  |some ⟨_,_,_,.slice _ sz _⟩,.imm (.sl sz' es),some l,.imm (.int _ h),.imm (.int _ m)=>if sz=sz'∧0≤l∧l≤h∧h=m∧m≤es.length then val (.ful sz ((es.drop l.toNat).take (h.toNat - l.toNat))) else none
  |_,_,_,_,_=>none
 |.call ⟨.builtin .append,args,ts⟩=>match aJ P (ts.getD 0 0),args.toList.map ev with
  |some ⟨_,_,_,.slice e sz bytes⟩,[s,x]=>if (aJ P e).isSome=true∧0 < sz∧bytes≤100000∧ts.size=2∧ts.getD 1 0=ts.getD 0 0 then (match mG get sz x with
   |some xs=>match s with
    |.imm .nil=>match get id with
     |some (.dead g)=>if xs.length≤most then some ⟨.row id (g+1),[(id,.row e sz (g+1) xs)],none⟩ else none
     |_=>none
    |.row r g=>match get r with
     |some (.row e' sz' g' es)=>if g=g'∧e=e'∧sz=sz'∧Room bytes (es.length+xs.length)∧OY r x then some ⟨.row r (g+1),[(r,.row e sz (g+1) (es++xs))],none⟩ else none
     |_=>none
    |.ful sz' es=>match get id with
     |some (.dead g)=>if sz=sz'∧es.length+xs.length≤most then (if xs.length=0 then val (.imm (.sl sz es)) else some ⟨.row id (g+1),[(id,.row e sz (g+1) (es.map .imm++xs))],none⟩) else none
     |_=>none
    |_=>none
   |none=>none) else O8 P id get e sz bytes ts s x
  |_,_=>none
 |.call ⟨.builtin .copy,args,ts⟩=>match aJ P (ts.getD 0 0),args.toList.map ev with
  |some ⟨_,_,_,.slice e sz _⟩,[.row r g,x]=>match get r,mG get sz x with
   |some (.row e' sz' g' es),some xs=>if g=g'∧e=e'∧sz=sz'∧0 < sz∧ts.size=2∧xs.length≤most∧es.length≤most then some ⟨.imm (.int .i64 (min xs.length es.length:Nat)),[(r,.row e sz g (xs.take es.length++es.drop xs.length))],none⟩ else none
   |_,_=>none
  |some ⟨_,_,_,.slice e sz _⟩,[.sub r g sz2 q m,x]=>match get r,mG get sz x with
   |some (.row e' sz' g' es),some xs=>if g=g'∧e=e'∧sz=sz'∧sz=sz2∧0 < sz∧ts.size=2∧xs.length≤m∧m≤most then some ⟨.imm (.int .i64 xs.length),[(r,.row e sz g (es.take q++xs++es.drop (q+xs.length)))],none⟩ else none
   |_,_=>none
  |_,_=>none
 |.extract x i=>match ev x with
  |.tup cs=>(cs[i]?).bind val
  |_=>none
 |.makeSlice t l c=>match aJ P t,get id,ev l,ev c with
  |some ⟨_,_,_,.slice e sz bytes⟩,some (.dead g),.imm (.int _ z),.imm (.int _ y)=>match aJ P e with
   |some d=>if 0 < sz∧bytes≤100000∧0≤z∧z≤y∧y≤(most:Int) then some ⟨.row id (g+1),[(id,.row e sz (g+1) (List.replicate z.toNat (.imm (eu d))))],none⟩ else none
   |none=>none
  |_,_,_,_=>none
 |.makeMap t none=>match aJ P t,get id with
  |some ⟨_,_,_,.map k _⟩,some (.dead g)=>match (aJ P k).bind (pF T k) with
   |some kk=>some ⟨.row id (g+1),[(id,.map kk (g+1) [])],none⟩
   |none=>none
  |_,_=>none
 |.lookup t m x ok=>match aJ P t,ev m,ev x with
  |some ⟨_,_,_,.map k e⟩,.row r g,.imm a=>match get r,(aJ P k).bind (pF T k),aJ P e with
   |some (.map kk' g' ps),some kk,some d=>if g=g'∧kk=kk'∧dH kk a=true then val (lookO ok (eu d) (fB ps a)) else (if g=g'∧ok=false∧dH kk a=true then JY kk a (eu d) ps kk' else none)
   |_,_,_=>none
  |some ⟨_,_,_,.map k e⟩,.imm .nm,.imm a=>match (aJ P k).bind (pF T k),aJ P e with
   |some kk,some d=>if dH kk a=true then val (lookO ok (eu d) none) else none
   |_,_=>none
  |_,_,_=>none
 |.mapUpdate t m x y|.insert t m x y=>match aJ P t,ev m,ev x,toI (ev y) with
  |some ⟨_,_,_,.map k _⟩,.row r g,.imm a,some b=>match get r,(aJ P k).bind (pF T k) with
   |some (.map kk' g' ps),some kk=>if g=g'∧kk=kk'∧dH kk a=true then some ⟨.any,[(r,.map kk g (dS ps a b))],none⟩ else none
   |_,_=>none
  |some ⟨_,_,_,.map k _⟩,.row r g,.imm a,none=>KU ((aJ P k).bind (pF T k)) r g a get (ev y)
  |_,_,_,_=>none
 |.range t x=>match aJ P t,ev x,get id with
  |some ⟨_,_,_,.map _ _⟩,.row r g,some (.dead gd)=>match get r with
   |some (.map kk g' ps)=>if g=g'∧gF kk=false∧r≠id then some ⟨.ptr id (gd+1) 0,[(r,.dead g),(id,.map (.iter false) (gd+1) ps)],none⟩ else none
   |_=>none
  |_,_,_=>none
 |.entry x=>match ev x with
  |.ptr r g 0=>match get r with
   |some (.map (.iter true) g' ((a,b)::_))=>if g=g' then val (.tup [.imm a,.imm b]) else none
   |_=>none
  |_=>none
 |.call ⟨.builtin .delete,args,ts⟩=>match aJ P (ts.getD 0 0),args.toList.map ev with
  |some ⟨_,_,_,.map k _⟩,[.row r g,.imm a]=>match get r,(aJ P k).bind (pF T k) with
   |some (.map kk' g' ps),some kk=>if g=g'∧kk=kk'∧dH kk a=true∧ts.size=2∧ts.getD 1 0=k then some ⟨.any,[(r,.map kk g (yJ ps a))],none⟩ else none
   |_,_=>none
  |_,_=>none
 |.call ⟨.builtin .clear,args,ts⟩=>match aJ P (ts.getD 0 0),args.toList.map ev with
  |some ⟨_,_,_,.slice e sz _⟩,[.sub r g sz2 q m]=>match get r,aJ P e with
   |some (.row e' sz' g' es),some d=>if g=g'∧e=e'∧sz=sz'∧sz=sz2∧0 < sz∧ts.size=1 then some ⟨.any,[(r,.row e sz g (es.take q++List.replicate m (.imm (eu d))++es.drop (q+m)))],none⟩ else none
   |_,_=>none
  |_,_=>none
 |.call ⟨.builtin .unsafeSliceData,args,_⟩=>match args.toList.map ev with
  |[.row r g]=>match get r with
   |some (.row _ sz g' es)=>if g=g'∧sz=1∧0 < es.length then val (.eptr r g 1 0 0) else none
   |_=>none
  |_=>none
 |.call ⟨.builtin .unsafeString,args,ts⟩=>match aJ P (ts.getD 0 0),args.toList.map ev with
  |some ⟨_,_,_,.ptr e⟩,[.eptr r g sz i oo,.imm (.int .i64 n)]=>match get r,aJ P e with
   |some (.row e' sz' g' es),some d=>if (g=g'∧e=e'∧sz=1∧sz'=1∧i=0∧oo=0∧d.size=1∧ts.size=2)∧n=es.length∧0 < es.length then (dX es).bind fun bs=>some ⟨.imm (.str ⟨bs.toArray⟩),[(r,.dead (g+1))],none⟩ else none
   |_,_=>none
  |_,_=>none
 |.makeFunc (.func f) first caps=>if first.size=0 then val (if caps.size=0 then .imm (.fn f) else .clo f (caps.toList.map ev)) else none
 |.convert s t x=>match aJ P s,aJ P t,ev x with
  |some ⟨_,_,_,.int _⟩,some ⟨_,_,_,.int k⟩,.imm (.int _ z)=>val (.imm (.int k (k.wrap z)))
  |some ⟨_,_,_,.str⟩,some ⟨_,_,_,.str⟩,.imm (.str z)=>val (.imm (.str z))
  |some ⟨_,_,_,.slice e 1 _⟩,some ⟨_,_,_,.str⟩,.row r g=>match aJ P e,get r with
   |some ⟨_,_,_,.int .u8⟩,some (.row _ 1 g' es)=>if g=g' then (dX es).bind fun bs=>val (.imm (.str ⟨bs.toArray⟩)) else none
   |_,_=>none
  |some ⟨_,_,_,.slice e 1 _⟩,some ⟨_,_,_,.str⟩,.imm (.sl 1 es)=>match aJ P e with
   |some ⟨_,_,_,.int .u8⟩=>(dX (es.map .imm)).bind fun bs=>val (.imm (.str ⟨bs.toArray⟩))
   |_=>none
  |some ⟨_,_,_,.slice e 1 _⟩,some ⟨_,_,_,.str⟩,.sub r g 1 q m=>match aJ P e,get r with
   |some ⟨_,_,_,.int .u8⟩,some (.row _ 1 g' es)=>if g=g' then (dX ((es.drop q).take m)).bind fun bs=>val (.imm (.str ⟨bs.toArray⟩)) else none
   |_,_=>none
  |_,_,_=>none
 |.call ⟨.builtin .len,args,ts⟩=>match aJ P (ts.getD 0 0),args.toList.map ev with
  |some ⟨_,_,_,.slice _ _ _⟩,[.imm .nil]=>if ts.size=1 then val (.imm (.int .i64 0)) else none
  |some ⟨_,_,_,.slice _ _ _⟩,[.imm (.sl _ es)]=>if ts.size=1 then val (.imm (.int .i64 es.length)) else none
  |some ⟨_,_,_,.str⟩,[.imm (.str s)]=>if ts.size=1 then val (.imm (.int .i64 s.size)) else none
  |some ⟨_,_,_,.slice _ _ _⟩,[.row r g]=>match get r with
   |some (.row _ _ g' es)=>if ts.size=1∧g=g' then val (.imm (.int .i64 es.length)) else none
   |_=>none
  |some ⟨_,_,_,.slice _ _ _⟩,[.sub r g _ _ m]=>match get r with
   |some (.row _ _ g' _)=>if ts.size=1∧g=g' then val (.imm (.int .i64 m)) else none
   |_=>none
  |some ⟨_,_,_,.map _ _⟩,[.row r g]=>match get r with
   |some (.map kk g' ps)=>if ts.size=1∧g=g'∧gF kk=false then val (.imm (.int .i64 ps.length)) else none
   |_=>none
  |_,_=>none
 |.call ⟨.builtin .max,args,_⟩=>match args.toList.map ev with
  |[.imm (.int k a),.imm (.int _ b)]=>val (.imm (.int k (if b > a then b else a)))
  |_=>none
 |.call ⟨.builtin .min,args,_⟩=>match args.toList.map ev with
  |[.imm (.int k a),.imm (.int _ b)]=>val (.imm (.int k (if b < a then b else a)))
  |_=>none
 |.call ⟨.value f,args,_⟩=>match ev f,cr with
  |.imm (.fn f),c::_=>some ⟨c.res,c.ws,some ⟨f,args.toList.map ev,c.reads.filterMap fun r=>(get r).map fun b=>(r,b),c.res,c.ws⟩⟩
  |.imm (.clo f cs),c::_=>some ⟨c.res,c.ws,some ⟨f,args.toList.map ev++cs.map ofC,c.reads.filterMap fun r=>(get r).map fun b=>(r,b),c.res,c.ws⟩⟩
  |.clo f cs,c::_=>some ⟨c.res,c.ws,some ⟨f,args.toList.map ev++cs,c.reads.filterMap fun r=>(get r).map fun b=>(r,b),c.res,c.ws⟩⟩
  |_,_=>none
 |_=>none
end Go.Pv
namespace Go.Pv
open Go.RowKit (Below)
theorem nZ {k:K} {n:Nat} {w:World}:∀{E:List PV} {vs:List Value},aI k n w E vs→E.length=vs.length
 |[],vs,h=>by unfold aI at h;subst h;rfl
 |c::cs,vs,h=>by
  unfold aI at h
  obtain⟨v,r,e,_,h2⟩:=h
  rw[e,List.length_cons,List.length_cons,nZ h2]
theorem fZ {k:K} {n:Nat} {w:World}:∀{E:List PV} {vs:List Value},aT k n w E vs→E.length=vs.length
 |[],vs,h=>by unfold aT at h;subst h;rfl
 |c::cs,vs,h=>by
  unfold aT at h
  obtain⟨v,r,e,_,_,h2⟩:=h
  rw[e,List.length_cons,List.length_cons,fZ h2]
theorem qI {Q:Nat→Prop} {w:World}:∀{E:List IV} {vs:List Value},aO Q w E vs→E.length=vs.length
 |[],vs,h=>by unfold aO at h;subst h;rfl
 |c::cs,vs,h=>by
  unfold aO at h
  obtain⟨v,r,e,_,_,h2⟩:=h
  rw[e,List.length_cons,List.length_cons,qI h2]
theorem F4 {k:K} {n:Nat} {w:World}:∀{E:List PV} {vs:List Value} (_:aI k n w E vs) (t:Nat) (d:Value),Rep k n w (E.getD t .any) (vs.getD t d)
 |[],vs,h,t,d=>by simpa using bg k n w _
 |c::cs,vs,h,t,d=>by
  unfold aI at h
  obtain⟨v,r,e,h1,h2⟩:=h
  subst e
  cases t with
  |zero=>simpa using h1
  |succ t=>simpa using F4 h2 t d
theorem vg {k:K} {n:Nat} {w:World}:∀{E:List PV} {vs:List Value} (_:aI k n w E vs) (t:Nat) (p:PV),E[t]?=some p→∃v,vs[t]?=some v∧Rep k n w p v
 |[],vs,h,t,p,e=>by simp at e
 |c::cs,vs,h,t,p,e=>by
  unfold aI at h
  obtain⟨v,r,ee,h1,h2⟩:=h
  subst ee
  cases t with
  |zero=>simp only[List.getElem?_cons_zero,Option.some.injEq]at e;subst e;exact⟨v,rfl,h1⟩
  |succ t=>simpa using vg h2 t p (by simpa using e)
theorem Cg {k:K} {n:Nat} {w:World}:∀{E:List PV} {vs:List Value} (_:aT k n w E vs) (t:Nat) (p:PV),E[t]?=some p→∃v,vs[t]?=some v∧one v∧Rep k n w p v
 |[],vs,h,t,p,e=>by simp at e
 |c::cs,vs,h,t,p,e=>by
  unfold aT at h
  obtain⟨v,r,ee,h0,h1,h2⟩:=h
  subst ee
  cases t with
  |zero=>simp only[List.getElem?_cons_zero,Option.some.injEq]at e;subst e;exact⟨v,rfl,h0,h1⟩
  |succ t=>simpa using Cg h2 t p (by simpa using e)
theorem Bf {Q:Nat→Prop} {w:World}:∀{E:List IV} {vs:List Value} (_:aO Q w E vs) (t:Nat) (p:IV),E[t]?=some p→∃v,vs[t]?=some v∧one v∧aF Q w p v
 |[],vs,h,t,p,e=>by simp at e
 |c::cs,vs,h,t,p,e=>by
  unfold aO at h
  obtain⟨v,r,ee,h0,h1,h2⟩:=h
  subst ee
  cases t with
  |zero=>simp only[List.getElem?_cons_zero,Option.some.injEq]at e;subst e;exact⟨v,rfl,h0,h1⟩
  |succ t=>simpa using Bf h2 t p (by simpa using e)
theorem jl {k:K} {n:Nat} {w:World}:∀{E:List PV} {vs:List Value} (_:aT k n w E vs) (t:Nat),aT k n w (E.drop t) (vs.drop t)
 |[],vs,h,t=>by unfold aT at h;subst h;simp[aT]
 |c::cs,vs,h,t=>by
  cases t with
  |zero=>simpa using h
  |succ t=>
   unfold aT at h
   obtain⟨v,r,ee,h0,h1,h2⟩:=h
   subst ee
   simpa using jl h2 t
theorem jr {k:K} {n:Nat} {w:World}:∀{E:List PV} {vs:List Value} (_:aT k n w E vs) (t:Nat),aT k n w (E.take t) (vs.take t)
 |[],vs,h,t=>by unfold aT at h;subst h;simp[aT]
 |c::cs,vs,h,t=>by
  unfold aT at h
  obtain⟨v,r,ee,h0,h1,h2⟩:=h
  subst ee
  cases t with
  |zero=>simp[aT]
  |succ t=>simp only[List.take_succ_cons];unfold aT;exact⟨v,_,rfl,h0,h1,jr h2 t⟩
theorem gB {k:K} {n:Nat} {w:World}:∀{E E':List PV} {vs vs':List Value},aT k n w E vs→aT k n w E' vs'→aT k n w (E++E') (vs++vs')
 |[],_,vs,_,h,h'=>by unfold aT at h;subst h;simpa using h'
 |c::cs,_,vs,_,h,h'=>by
  unfold aT at h
  obtain⟨v,r,ee,h0,h1,h2⟩:=h
  subst ee
  simp only[List.cons_append]
  unfold aT
  exact⟨v,_,rfl,h0,h1,gB h2 h'⟩
theorem mU {k:K} {n:Nat} {w:World}:∀{E E':List PV} {vs vs':List Value},aI k n w E vs→aI k n w E' vs'→aI k n w (E++E') (vs++vs')
 |[],_,vs,_,h,h'=>by unfold aI at h;subst h;simpa using h'
 |c::cs,_,vs,_,h,h'=>by
  unfold aI at h
  obtain⟨v,r,ee,h1,h2⟩:=h
  subst ee
  simp only[List.cons_append]
  unfold aI
  exact⟨v,_,rfl,h1,mU h2 h'⟩
theorem oO {Q:Nat→Prop} {w:World}:∀{E:List IV} {vs:List Value} (_:aO Q w E vs) (t:Nat),aO Q w (E.drop t) (vs.drop t)
 |[],vs,h,t=>by unfold aO at h;subst h;simp[aO]
 |c::cs,vs,h,t=>by
  cases t with
  |zero=>simpa using h
  |succ t=>
   unfold aO at h
   obtain⟨v,r,ee,h0,h1,h2⟩:=h
   subst ee
   simpa using oO h2 t
theorem sJ {Q:Nat→Prop} {w:World}:∀{E:List IV} {vs:List Value} (_:aO Q w E vs) (t:Nat),aO Q w (E.take t) (vs.take t)
 |[],vs,h,t=>by unfold aO at h;subst h;simp[aO]
 |c::cs,vs,h,t=>by
  unfold aO at h
  obtain⟨v,r,ee,h0,h1,h2⟩:=h
  subst ee
  cases t with
  |zero=>simp[aO]
  |succ t=>simp only[List.take_succ_cons];unfold aO;exact⟨v,_,rfl,h0,h1,sJ h2 t⟩
theorem nG {k:K} {n:Nat} {w:World}:∀{cs:List IV} {vs:List Value},aO k.Q w cs vs→aT k n w (cs.map .imm) vs
 |[],vs,h=>by unfold aO at h;subst h;simp[aT]
 |c::cs,vs,h=>by
  unfold aO at h
  obtain⟨v,r,ee,h0,h1,h2⟩:=h
  simp only[List.map_cons]
  unfold aT
  exact⟨v,r,ee,h0,by unfold Rep;exact h1,nG h2⟩
theorem qM {k:K} {n:Nat} {w:World}:∀{cs:List PV} {is:List IV} {vs:List Value},kH cs=some is→aT k n w cs vs→aO k.Q w is vs
 |[],is,vs,h,hr=>by
  simp only[kH,Option.some.injEq]at h
  subst h
  unfold aT at hr
  simp[aO,hr]
 |.imm i::cs,is,vs,h,hr=>by
  unfold kH at h
  split at h
  ·rename_i js hj
   simp only[Option.some.injEq]at h
   subst h
   unfold aT at hr
   obtain⟨v,r,ee,h0,h1,h2⟩:=hr
   unfold aO
   exact⟨v,r,ee,h0,by unfold Rep at h1;exact h1,qM hj h2⟩
  ·cases h
 |.any::cs,is,vs,h,_=>by cases h
 |.agg _::cs,is,vs,h,_=>by cases h
 |.tup _::cs,is,vs,h,_=>by cases h
 |.ptr _ _ _::cs,is,vs,h,_=>by cases h
 |.row _ _::cs,is,vs,h,_=>by cases h
 |.eptr _ _ _ _ _::cs,is,vs,h,_=>by cases h
 |.sub _ _ _ _ _::cs,is,vs,h,_=>by cases h
 |.iptr _::cs,is,vs,h,_=>by cases h
 |.ful _ _::cs,is,vs,h,_=>by cases h
 |.clo _ _::cs,is,vs,h,_=>by cases h
theorem mW {k:K} {n:Nat} {w:World} {p:PV} {v:Value} (h:Rep k n w p v):Rep k n w (norm p) v:=by
 cases p with
 |agg cs=>
  cases hi:kH cs with
  |some is=>
   have e:norm (.agg cs)=.imm (.agg is):=by simp[norm,hi]
   rw[e,aB,bG]
   obtain⟨vs,e,hc⟩:=dx.1 h
   exact⟨vs,e,qM hi hc⟩
  |none=>
   have e:norm (.agg cs)=.agg cs:=by simp[norm,hi]
   rw[e];exact h
 |_=>exact h
theorem eO {k:K} {n:Nat} {w:World} {p:PV} {v:Value} {cs:List PV} (h:Rep k n w p v) (hc:bZ p=some cs):aT k n w cs v.cells.toList:=by
 have single:∀v:Value,one v→Rep k n w p v→aT k n w [p] v.cells.toList:=by
  intro v hv hr
  have e:v.cells.toList=[v]:=by cases v<;>first|rfl|(simp[one,Value.oneCell']at hv)
  rw[e]
  unfold aT
  exact⟨v,[],rfl,hv,hr,by unfold aT;rfl⟩
 cases p with
 |any=>cases hc
 |tup _=>cases hc
 |agg ps=>
  simp only[bZ,Option.some.injEq]at hc
  subst hc
  unfold Rep at h
  obtain⟨vs,e,hl⟩:=h
  subst e
  exact hl
 |imm i=>
  simp only[bZ,Option.some.injEq]at hc
  subst hc
  cases i with
  |agg is=>
   unfold Rep aF at h
   obtain⟨vs,e,hl⟩:=h
   subst e
   exact nG hl
  |bool b=>exact single v (by unfold Rep aF at h;subst h;rfl) h
  |int kk z=>exact single v (by unfold Rep aF at h;subst h;rfl) h
  |str s=>exact single v (by unfold Rep aF at h;subst h;rfl) h
  |fn f=>exact single v (by unfold Rep aF at h;subst h;rfl) h
  |nil=>exact single v (by unfold Rep aF at h;subst h;rfl) h
  |np=>exact single v (by unfold Rep aF at h;subst h;rfl) h
  |nm=>exact single v (by unfold Rep aF at h;subst h;rfl) h
  |nf=>exact single v (by unfold Rep aF at h;subst h;rfl) h
  |sl sz es=>exact single v (by unfold Rep aF at h;obtain⟨a,c,e,_⟩:=h;subst e;rfl) h
  |clo f cs=>exact single v (by unfold Rep aF at h;obtain⟨vs,e,_⟩:=h;subst e;rfl) h
  |ip cs=>exact single v (by unfold Rep aF at h;obtain⟨b,off,vs,e,_⟩:=h;subst e;rfl) h
 |ptr r g o=>
  simp only[bZ,Option.some.injEq]at hc
  subst hc
  exact single v (by unfold Rep at h;exact h.1) h
 |row r g=>
  simp only[bZ,Option.some.injEq]at hc
  subst hc
  exact single v (by unfold Rep at h;exact h.1) h
 |eptr r g sz i o=>
  simp only[bZ,Option.some.injEq]at hc
  subst hc
  exact single v (by unfold Rep at h;exact h.1) h
 |sub r g sz q m=>
  simp only[bZ,Option.some.injEq]at hc
  subst hc
  exact single v (by unfold Rep at h;exact h.1) h
 |iptr cs=>
  simp only[bZ,Option.some.injEq]at hc
  subst hc
  exact single v (by unfold Rep at h;obtain⟨b,off,vs,e,_⟩:=h;subst e;rfl) h
 |ful sz es=>
  simp only[bZ,Option.some.injEq]at hc
  subst hc
  exact single v (by unfold Rep at h;obtain⟨_,a,e⟩:=h;subst e;rfl) h
 |clo f cs=>
  simp only[bZ,Option.some.injEq]at hc
  subst hc
  exact single v (by unfold Rep at h;obtain⟨vs,e,_⟩:=h;subst e;rfl) h
theorem bf {k k':K} {n n':Nat} {w w':World} {sz:Nat} (h:Ext k n w k' n' w'):∀(es:List PV) (xs:List Value),aL k n w sz es xs→aL k' n' w' sz es xs
 |[],_,hr=>by unfold aL at hr ⊢;exact hr
 |e::es,xs,hr=>by
  unfold aL at hr ⊢
  obtain⟨v,r,h1,h2,h3,h4,h5⟩:=hr
  exact⟨v,r,h1,h2,h3,aU h e v h4,bf h es r h5⟩
theorem Jq {w w':World} {N:Nat} {e:TypeId} {sz n:Nat} {v:Value} {xs:List Value} (h:w.ownsRow N e sz v n xs) (hb:∀b,base v=some b→w'.heap[b]?=w.heap[b]?):w'.ownsRow N e sz v n xs:=by
 obtain⟨h1,h2⟩:=h
 refine⟨h1,?_⟩
 rcases h2 with h2|⟨g,cap,cur,hv,hg,hh,r⟩
 ·exact Or.inl h2
 ·exact Or.inr ⟨g,cap,cur,hv,hg,by rw[hb g (by rw[hv];rfl)];exact hh,r⟩
theorem BL.mono {N n n' m:Nat} {k k':K} {w w':World} {e:TypeId} {sz:Nat} {is:List IV} {v:Value} {b:Nat} (h:BL N k n w m e sz is v b) (he:Ext k n w k' n' w') (hH:∀o,k.H b=some (m,o)→k'.H b=some (m,o)∧w'.heap[b]?=w.heap[b]?):BL N k' n' w' m e sz is v b:=by
 obtain⟨h1,⟨o,h2⟩,xs,h3,h4⟩:=h
 exact⟨h1,⟨o,(hH o h2).1⟩,xs,Jq h3 (fun b' hb'=>by rw[h1]at hb';injection hb' with hb';subst hb';exact (hH o h2).2),bf he _ _ h4⟩
theorem bF.mono {N n n' m:Nat} {k k':K} {w w':World} {e:TypeId} {sz:Nat} {out:Option (Nat×Nat×Nat)} (he:Ext k n w k' n' w'):∀{ps:List (IV×IV)} {i:Nat} {es:List MapEntry} {bs:List Nat},(∀b∈bs,∀o,k.H b=some (m,o)→k'.H b=some (m,o)∧w'.heap[b]?=w.heap[b]?)→bF N k n w m e sz out i ps es bs→bF N k' n' w' m e sz out i ps es bs
 |[],_,_,_,_,h=>h
 |(a,x)::ps,i,es,bs,hH,h=>by
  unfold bF at h ⊢
  obtain⟨en,r,h1,h2,h3⟩:=h
  refine⟨en,r,h1,aQ he.q a _ h2,?_⟩
  rcases h3 with ⟨j,g,h4,h5,h6⟩|⟨h4,b,bs',is,h5,h6,h7,h8,h9⟩
  ·exact Or.inl ⟨j,g,h4,aU he _ _ h5,h6.mono he hH⟩
  ·subst h5
   exact Or.inr ⟨h4,b,bs',is,rfl,h6,h7,h8.mono he (hH b List.mem_cons_self),h9.mono he (fun c hc=>hH c (List.mem_cons_of_mem _ hc))⟩
theorem dz.mono {N n n':Nat} {k k':K} {w w':World} {v:Value} {kk:MK} {ps:List (IV×IV)} (hm:dz N k n w v kk ps) (he:Ext k n w k' n' w') (hH:∀m b o,base v=some m→k.H b=some (m,o)→k'.H b=some (m,o)∧w'.heap[b]?=w.heap[b]?) (hb:∀b,base v=some b→w'.heap[b]?=w.heap[b]?):dz N k' n' w' v kk ps:=by
 cases hk:gF kk with
 |true=>
  cases kk with
  |iter b=>exact lQ.mono hm he.q hb
  |rows kk e sz out=>
   obtain⟨b,es,clock,bs,h1,h2,h3,h4,h5,h6⟩:=hm
   exact⟨b,es,clock,bs,h1,h2,(hb b (by rw[h1];rfl)).trans h3,h4.mono he (fun c _ o ho=>hH b c o (by rw[h1];rfl) ho),h5,h6⟩
  |_=>cases hk
 |false=>
  rw[fJ hk]at hm ⊢
  obtain⟨b,es,clock,h1,h2,h3,h4,h5⟩:=hm
  exact⟨b,es,clock,h1,h2,(hb b (by rw[h1];rfl)).trans h3,eF he.q ps _ h4,h5⟩
theorem dz.same {N n n':Nat} {k k':K} {w:World} {v:Value} {kk:MK} {ps:List (IV×IV)} (hm:dz N k n w v kk ps) (he:Ext k n w k' n' w) (hH:∀b p,k.H b=some p→k'.H b=some p):dz N k' n' w v kk ps:=hm.mono he (fun _ b _ _ hb=>⟨hH b _ hb,rfl⟩) (fun _ _=>rfl)
def Gt:Blk→Bool
 |.map kk _ _=>allIn kk
 |_=>true
theorem nU {k k':K} {n n' sz:Nat} {w:World} (hQ:k'.Q=k.Q):∀{is:List IV} {xs:List Value},aL k n w sz (is.map .imm) xs→aL k' n' w sz (is.map .imm) xs
 |[],xs,h=>by simp only[List.map_nil]at h ⊢;unfold aL at h ⊢;exact h
 |i::is,xs,h=>by
  simp only[List.map_cons]at h ⊢
  unfold aL at h ⊢
  obtain⟨v,r,h1,h2,h3,h4,h5⟩:=h
  refine⟨v,r,h1,h2,h3,?_,nU hQ h5⟩
  rw[aB]at h4 ⊢
  rw[hQ]
  exact h4
theorem bF.any {N n n' m:Nat} {k k':K} {w:World} {e:TypeId} {sz:Nat} (hQ:k'.Q=k.Q) (hH:k'.H=k.H):∀{ps:List (IV×IV)} {i:Nat} {es:List MapEntry} {bs:List Nat},bF N k n w m e sz none i ps es bs→bF N k' n' w m e sz none i ps es bs
 |[],_,_,_,h=>h
 |(a,x)::ps,i,es,bs,h=>by
  unfold bF at h ⊢
  obtain⟨en,r,h1,h2,h3⟩:=h
  refine⟨en,r,h1,by rw[hQ];exact h2,?_⟩
  rcases h3 with ⟨j,g,h4,_⟩|⟨h4,b,bs',is,h5,h6,h7,⟨g1,g2,xs,g3,g4⟩,h9⟩
  ·cases h4
  ·exact Or.inr ⟨h4,b,bs',is,h5,h6,h7,⟨g1,by rw[hH];exact g2,xs,g3,nU hQ g4⟩,h9.any hQ hH⟩
theorem dz.any {N n n':Nat} {k k':K} {w:World} {v:Value} {kk:MK} {ps:List (IV×IV)} (hm:dz N k n w v kk ps) (hQ:k'.Q=k.Q) (hH:k'.H=k.H) (ho:allIn kk=true):dz N k' n' w v kk ps:=by
 cases kk with
 |rows kk e sz out=>
  cases out with
  |some _=>cases ho
  |none=>
   obtain⟨b,es,clock,bs,h1,h2,h3,h4,h5,h6⟩:=hm
   exact⟨b,es,clock,bs,h1,h2,h3,h4.any hQ hH,h5,h6⟩
 |iter b=>
  unfold dz at hm ⊢
  rw[hQ];exact hm
 |_=>
  unfold dz at hm ⊢
  rw[hQ];exact hm
theorem dz.plain {N n n':Nat} {k k':K} {w:World} {v:Value} {kk:MK} {ps:List (IV×IV)} (hm:dz N k n w v kk ps) (hQ:k'.Q=k.Q) (ho:xS kk=false):dz N k' n' w v kk ps:=by
 cases kk with
 |rows kk e sz out=>cases ho
 |iter b=>
  unfold dz at hm ⊢
  rw[hQ];exact hm
 |_=>
  unfold dz at hm ⊢
  rw[hQ];exact hm
theorem dG {Γ:Ctx} {k k':K} {n:Nat} {w w':World} {r:Nat} {x:Blk} (h:nW Γ k n w r x) (he:Ext k n w k' n w') (hρ:k'.ρ r=k.ρ r) (hG:k'.G r=k.G r)
  (hb:∀b,own k r x=some b→w'.heap[b]?=w.heap[b]?) (hH:∀m b o,own k r x=some m→k.H b=some (m,o)→k'.H b=some (m,o)∧w'.heap[b]?=w.heap[b]?:=by exact fun _ _ _ _ h=>⟨h,rfl⟩):nW Γ k' n w' r x:=by
 cases x with
 |dead g=>exact hG.trans h
 |box g cs t=>
  obtain⟨h1,b,c,ty,h2,h3,h4,h5⟩:=h
  exact⟨hG.trans h1,b,c,ty,hρ.trans h2,h3,(hb b (by show base (k.ρ r)=_;rw[h2];rfl)).trans h4,fT he cs _ h5⟩
 |row e sz g es=>
  obtain⟨h1,xs,h2,h3⟩:=h
  exact⟨hG.trans h1,xs,by rw[hρ];exact Jq h2 (fun b hb'=>hb b hb'),bf he es xs h3⟩
 |map kk g ps=>exact⟨hG.trans h.1,by rw[hρ];exact h.2.mono he hH hb⟩
theorem fG {k k':K} {r:Nat} {x:Blk} (hρ:k'.ρ r=k.ρ r):own k' r x=own k r x:=by
 cases x<;>simp[own,hρ]
def K.put (k:K) (id:Nat) (v:Value) (g:Nat):K:=⟨fun r=>if r=id then v else k.ρ r,fun r=>if r=id then g else k.G r,k.Q,k.H⟩
theorem K.bL (k:K) (id:Nat) (v:Value) (g:Nat):(k.put id v g).ρ id=v:=by simp[K.put]
theorem K.bP (k:K) (id:Nat) (v:Value) (g:Nat):(k.put id v g).G id=g:=by simp[K.put]
theorem K.eZ (k:K) {id r:Nat} (v:Value) (g:Nat) (h:r≠id):(k.put id v g).ρ r=k.ρ r:=by simp[K.put,h]
theorem K.Br (k:K) {id r:Nat} (v:Value) (g:Nat) (h:r≠id):(k.put id v g).G r=k.G r:=by simp[K.put,h]
theorem bJ {Γ:Ctx} {k:K} {B:List Blk} {w w':World} (h:Inv Γ k B w) {id:Nat} {x y:Blk} (hx:B[id]?=some x) {v:Value} {g:Nat}
  (hg:k.G id < g∨(k.G id=g∧v=k.ρ id)) (hbel:Below Γ.N w w') (hblk:∀b,b < w.heap.size→some b≠own k id x→w'.heap[b]?=w.heap[b]?)
  (hnew:∀b,base v=some b→(w.heap.size≤b∨own k id x=some b)∧b < w'.heap.size)
  (hy:Ext k B.length w (k.put id v g) B.length w'→nW Γ (k.put id v g) B.length w' id y) :
  Ext k B.length w (k.put id v g) B.length w'∧Inv Γ (k.put id v g) (B.set id y) w':=by
 have hid:id < B.length:=(List.getElem?_eq_some_iff.1 hx).1
 have hQ:∀b,k.Q b→some b≠own k id x:=fun b hb e=>(h.sep id x b hx e.symm).1 hb
 have he:Ext k B.length w (k.put id v g) B.length w':=by
  refine⟨Nat.le_refl _,fun b hb=>⟨hb,hblk b (h.lt b hb) (hQ b hb)⟩,fun r hr=>?_⟩
  by_cases e:r=id
  ·subst e
   rw[K.bP,K.bL]
   rcases hg with hg|⟨hg,hv⟩
   ·exact⟨Nat.le_of_lt hg,fun e=>absurd e (Nat.ne_of_gt hg)⟩
   ·exact⟨Nat.le_of_eq hg,fun _=>hv⟩
  ·rw[K.Br k v g e,K.eZ k v g e]
   exact⟨Nat.le_refl _,fun _=>rfl⟩
 have hot:∀r z b,r≠id→B[r]?=some z→own k r z=some b→w'.heap[b]?=w.heap[b]?:=fun r z b hr hz hb=>by
  refine hblk b (h.sep r z b hz hb).2.2 (fun e=>?_)
  exact hr (h.inj r id z x b hz hx hb e.symm)
 have hset:∀r z,(B.set id y)[r]?=some z→(r=id∧z=y)∨(r≠id∧B[r]?=some z):=fun r z hz=>by
  by_cases e:r=id
  ·subst e
   rw[List.getElem?_set_self hid]at hz
   exact Or.inl ⟨rfl,(Option.some.inj hz).symm⟩
  ·rw[List.getElem?_set_ne (Ne.symm e)]at hz
   exact Or.inr ⟨e,hz⟩
 have howny:∀b,own (k.put id v g) id y=some b→base v=some b:=fun b hb=>by
  cases y with
  |dead _=>cases hb
  |box _ _ _=>simpa[own,K.bL]using hb
  |row _ _ _ _=>simpa[own,K.bL]using hb
  |map _ _ _=>simpa[own,K.bL]using hb
 refine⟨he,⟨h.below.trans hbel,fun b hb=>Nat.lt_of_lt_of_le (h.lt b hb) hbel.size,Nat.le_trans h.le hbel.size,h.qs,h.rr.below hbel,fun gg cs hc=>?_,fun r z hz=>?_,fun r z b hz hb=>?_,fun r r' z z' b hz hz' hb hb'=>?_,⟨fun b hb=>?_,by rw[List.length_set];exact h.kp.ext.trans he⟩,fun r z b hz hb=>?_,h.hn⟩⟩
 ·rw[List.length_set];exact aU he _ _ (h.gl gg cs hc)
 ·rw[List.length_set]
  rcases hset r z hz with ⟨e1,e2⟩|⟨e1,e2⟩
  ·rw[e1,e2];exact hy he
  ·exact dG (h.blk r z e2) he (K.eZ k v g e1) (K.Br k v g e1) (fun b hb=>hot r z b e1 e2 hb) (fun m b o _ hb=>⟨hb,hblk b (h.kp.fr b (fK hb)).1 (fun e=>h.nf id x b hx e.symm (fK hb))⟩)
 ·rcases hset r z hz with ⟨e1,e2⟩|⟨e1,e2⟩
  ·subst e1;subst e2
   obtain⟨h1,h2⟩:=hnew b (howny b hb)
   rcases h1 with h1|h1
   ·exact⟨fun hq=>by have:=h.lt b hq;omega,Nat.le_trans h.le h1,h2⟩
   ·obtain⟨g1,g2,_⟩:=h.sep r x b hx h1
    exact⟨g1,g2,h2⟩
  ·rw[fG (K.eZ k v g e1)]at hb
   obtain⟨g1,g2,g3⟩:=h.sep r z b e2 hb
   exact⟨g1,g2,Nat.lt_of_lt_of_le g3 hbel.size⟩
 ·have key:∀r z,r≠id→B[r]?=some z→own k r z=some b→base v=some b→False:=fun r z hr hz hbz hbv=>by
   obtain⟨h1,_⟩:=hnew b hbv
   rcases h1 with h1|h1
   ·have:=(h.sep r z b hz hbz).2.2;omega
   ·exact hr (h.inj r id z x b hz hx hbz h1)
  rcases hset r z hz with ⟨e1,e2⟩|⟨e1,e2⟩<;>rcases hset r' z' hz' with ⟨f1,f2⟩|⟨f1,f2⟩
  ·rw[e1,f1]
  ·subst e1;subst e2
   rw[fG (K.eZ k v g f1)]at hb'
   exact (key r' z' f1 f2 hb' (howny b hb)).elim
  ·subst f1;subst f2
   rw[fG (K.eZ k v g e1)]at hb
   exact (key r z e1 e2 hb (howny b hb')).elim
  ·rw[fG (K.eZ k v g e1)]at hb
   rw[fG (K.eZ k v g f1)]at hb'
   exact h.inj r r' z z' b e2 f2 hb hb'
 ·obtain⟨g1,g2,g3⟩:=h.kp.fr b hb
  exact⟨Nat.lt_of_lt_of_le g1 hbel.size,(hblk b g1 (fun e=>h.nf id x b hx e.symm hb)).trans g2,g3⟩
 ·rcases hset r z hz with ⟨e1,e2⟩|⟨e1,e2⟩
  ·subst e1;subst e2
   obtain⟨h1,h2⟩:=hnew b (howny b hb)
   rcases h1 with h1|h1
   ·exact fun hf=>by have:=(h.kp.fr b hf).1;omega
   ·exact h.nf r x b hx h1
  ·rw[fG (K.eZ k v g e1)]at hb
   exact h.nf r z b e2 hb
end Go.Pv
namespace Go.Pv
open Go.RowKit (Below)
theorem aD {P:Program} {t:TypeId} {d:TD} (h:aJ P t=some d):∃i z u,P.info? t=some i∧P.underlying t=some u∧i.zero=some z∧fC z.cells.toList=some d.zero∧kindOf P u=some d.kind∧
  Qc z=rJ u∧d.agg=rJ u∧d.size=i.size∧d.zero.length=i.size:=by
 unfold aJ at h
 split at h
 ·rename_i i u hi hu
  split at h
  ·rename_i z hz
   split at h
   ·rename_i zs kk h1 h2
    split at h
    ·rename_i hc
     simp only[Option.some.injEq]at h
     subst h
     exact⟨i,z,u,hi,hu,hz,h1,h2,hc.1,rfl,rfl,hc.2⟩
    ·cases h
   ·cases h
  ·cases h
 ·cases h
theorem tL {Q:Nat→Prop} {w:World} {v:Value} {i:IV} (h:oZ v=some i):aF Q w i v∧one v:=by
 unfold oZ at h
 split at h
 case h_5 f a b=>
  split at h
  ·rename_i hc
   simp only[Option.some.injEq]at h
   subst h
   obtain⟨h1,h2⟩:=hc
   rw[Array.eq_empty_of_size_eq_zero h1,Array.eq_empty_of_size_eq_zero h2]
   exact⟨by unfold aF;rfl,rfl⟩
  ·cases h
 all_goals first|(cases h;done)|(simp only[Option.some.injEq]at h;subst h;exact⟨by unfold aF;rfl,rfl⟩)
theorem dL {Q:Nat→Prop} {w:World}:∀{vs:List Value} {is:List IV},fC vs=some is→aO Q w is vs
 |[],is,h=>by
  simp only[fC,Option.some.injEq]at h
  subst h
  unfold aO;rfl
 |v::r,is,h=>by
  unfold fC at h
  split at h
  ·rename_i i js h1 h2
   simp only[Option.some.injEq]at h
   subst h
   unfold aO
   exact⟨v,r,rfl,(tL (Q:=Q) (w:=w) h1).2,(tL h1).1,dL h2⟩
  ·cases h
theorem IE {Q:Nat→Prop} {w:World} {v:Value} {i:IV} (h:qY v=some i):aF Q w i v:=by
 unfold qY at h
 split at h
 ·split at h
  ·rename_i vs _ cs hc
   simp only[Option.some.injEq]at h
   subst h
   rw[bG]
   exact⟨vs.toList,by simp,dL hc⟩
  ·cases h
 ·exact (tL h).1
theorem Gc {k:K} {n:Nat} {w:World}:∀{cs:List IV} {vs:List Value},aO k.Q w cs vs→aI k n w (cs.map ofC) vs
 |[],vs,h=>by unfold aO at h;simpa[aI]using h
 |c::cs,vs,h=>by
  unfold aO at h
  obtain⟨v,r,e,_,h1,h2⟩:=h
  rw[List.map_cons]
  unfold aI
  refine⟨v,r,e,?_,Gc h2⟩
  cases c with
  |ip is=>unfold aF at h1;unfold ofC Rep;exact h1
  |_=>exact aB.2 h1
theorem AR {k : K} {n : Nat} {w : World} : ∀ {cs : List PV} {is : List IV} {vs : List Value}, iY cs = some is → aI k n w cs vs → aO k.Q w is vs
 | [], is, vs, h, hr => by
   unfold iY at h
   simp only [Option.some.injEq] at h
   subst h
   unfold aI at hr
   unfold aO
   exact hr
 | c :: cs, is, vs, h, hr => by
   unfold aI at hr
   obtain ⟨v, r, e, h1, h2⟩ := hr
   have go : ∀ i : IV, one v → aF k.Q w i v → (iY cs).map (fun is => i :: is) = some is → aO k.Q w is vs := by
     intro i ho hi hm
     cases hc : iY cs with
     | none => rw [hc] at hm; cases hm
     | some js =>
       rw [hc] at hm
       simp only [Option.map_some, Option.some.injEq] at hm
       subst hm
       unfold aO
       exact ⟨v, r, e, ho, hi, AR hc h2⟩
   unfold iY at h
   split at h
   · rename_i heq; cases heq
   · rename_i heq
     injection heq with e1 e2
     subst e1; subst e2
     refine go _ ?_ (by unfold aF; unfold Rep at h1; exact h1) h
     unfold Rep at h1
     obtain ⟨_, _, _, ev, _⟩ := h1
     rw [ev]; rfl
   all_goals first
     | (rename_i heq
        injection heq with e1 e2
        subst e1; subst e2
        have h3 := aB.1 h1
        refine go _ ?_ h3 h
        unfold aF at h3
        first
          | (rw [h3]; rfl)
          | (obtain ⟨_, _, ev, _⟩ := h3; rw [ev]; rfl))
     | cases h
theorem JV {k:K} {n:Nat} {w:World} {p:PV} {i:IV} {v:Value} (h:toI p=some i) (hr:Rep k n w p v):aF k.Q w i v:=by
 unfold toI at h
 split at h
 ·simp only[Option.some.injEq]at h
  subst h
  exact aB.1 hr
 ·rename_i f cs
  cases hc:iY cs with
  |none=>rw[hc]at h;cases h
  |some is=>
   rw[hc]at h
   simp only[Option.map_some,Option.some.injEq]at h
   subst h
   unfold Rep at hr
   obtain⟨vs,e,h1⟩:=hr
   unfold aF
   exact⟨vs,e,AR hc h1⟩
 ·cases h
def pev (Γ:Ctx) (E:List PV):Operand→PV
 |.tmp t=>E.getD t .any
 |.const v=>Ik v
 |.global g=>match Γ.X.gl g with
  |some cs=>.iptr cs
  |none=>.any
 |.func f=>.imm (.fn f)
section
variable {P:Program} {Γ:Ctx} {k:K} {w:World} {a:Act} {s:St} (hI:Inv Γ k s.B w) (hT:aI k s.B.length w s.E a.tmps.toList)
include hI hT
theorem dP (x:Operand):Rep k s.B.length w (pev Γ s.E x) (a.eval x):=by
 cases x with
 |tmp t=>
  have h:=F4 hT t undef
  simpa[pev,Act.eval,Array.getD_eq_getD_getElem?,List.getD]using h
 |const v=>
  simp only[pev,Ik,Act.eval]
  cases hc:qY v with
  |none=>exact bg _ _ _ _
  |some i=>exact aB.2 (IE hc)
 |global g=>
  simp only[pev,Act.eval]
  cases hg:Γ.X.gl g with
  |none=>exact bg _ _ _ _
  |some cs=>exact hI.gl g cs hg
 |func f=>simp only[pev,Act.eval];exact aB.2 (by unfold aF;rfl)
omit hI hT in
def aY (B:List Blk):List (Nat×Blk)→List Blk
 |[]=>B
 |(r,b)::ws=>aY (B.set r b) ws
omit hI hT in
theorem jK:∀(ws:List (Nat×Blk)) (B:List Blk),(aY B ws).length=B.length
 |[],_=>rfl
 |(r,b)::ws,B=>by unfold aY;rw[jK ws,List.length_set]
def Does (P:Program) (Γ:Ctx) (k:K) (w:World) (a:Act) (B:List Blk) (o:Oper) (out:Out):Prop:=
 ∀(next:Act→World→Prop) (Q:Exit→Act→World→Prop),(∀v w' k',Ext k B.length w k' B.length w'→Inv Γ k' (aY B out.ws) w'→Rep k' B.length w' out.v v→next (a.put o.dst v) w')→o.wp P a w next Q
omit hT in
theorem au {o:Oper} {v:Value} {p:PV} (he:(execOp a.eval o).run P w=.ok (.value v) w) (hr:Rep k s.B.length w p v):Does P Γ k w a s.B o ⟨p,[],none⟩:=fun next Q h=>by
 unfold Oper.wp
 rw[he]
 exact h v w k (Ext.refl _ _ _) hI hr
omit hT hI in
theorem bI {o:Oper} {v:Value} {p:PV} {w':World} {k':K} {ws:List (Nat×Blk)} {ob:Option Ob} (he:(execOp a.eval o).run P w=.ok (.value v) w') (h1:Ext k s.B.length w k' s.B.length w') (h2:Inv Γ k' (aY s.B ws) w') (hr:Rep k' s.B.length w' p v):Does P Γ k w a s.B o ⟨p,ws,ob⟩:=fun next Q h=>by
 unfold Oper.wp
 rw[he]
 exact h v w' k' h1 h2 hr
omit hT hI in
theorem ou {o:Oper} {w':World} {k':K} {ws:List (Nat×Blk)} {ob:Option Ob} (he:(execOp a.eval o).run P w=.ok .skip w') (h1:Ext k s.B.length w k' s.B.length w') (h2:Inv Γ k' (aY s.B ws) w'):Does P Γ k w a s.B o ⟨.any,ws,ob⟩:=fun next Q h=>by
 unfold Oper.wp
 rw[he]
 exact h undef w' k' h1 h2 (bg _ _ _ _)
omit hI hT in
theorem bS {kk:IntKind} {z:Int} {v:Value} (h:Rep k s.B.length w (.imm (.int kk z)) v):v=.int kk z:=by rw[aB]at h;unfold aF at h;exact h
omit hI hT in
theorem ny {b:Bool} {v:Value} (h:Rep k s.B.length w (.imm (.bool b)) v):v=.bool b:=by rw[aB]at h;unfold aF at h;exact h
omit hI hT in
theorem lI {b:ByteArray} {v:Value} (h:Rep k s.B.length w (.imm (.str b)) v):v=.string b:=by rw[aB]at h;unfold aF at h;exact h
omit hI hT in
theorem Gs {f:FuncId} {v:Value} (h:Rep k s.B.length w (.imm (.fn f)) v):v=.func (.func f) #[] #[]:=by rw[aB]at h;unfold aF at h;exact h
omit hI hT in
theorem rP {kk:IntKind} {z:Int}:Rep k s.B.length w (.imm (.int kk z)) (.int kk z):=by rw[aB];unfold aF;rfl
omit hI hT in
theorem bR {b:Bool}:Rep k s.B.length w (.imm (.bool b)) (.bool b):=by rw[aB];unfold aF;rfl
omit hI hT in
theorem wH {b:ByteArray}:Rep k s.B.length w (.imm (.str b)) (.string b):=by rw[aB];unfold aF;rfl
omit hT in
theorem j3 {r g off:Nat} {cs:List PV} {v:Value} {t:Option TypeId} (h:Rep k s.B.length w (.ptr r g off) v) (hb:s.B[r]?=some (.box g cs t)) :
  ∃b c ty,v=.pointer (some ⟨b,off,none⟩)∧k.ρ r=.pointer (some ⟨b,0,none⟩)∧k.G r=g∧Γ.N≤b∧w.heap[b]?=some (.cells c (t.getD ty) (0,0))∧aT k s.B.length w cs c.toList:=by
 unfold Rep at h
 obtain⟨_,h1,h2,h3⟩:=h
 obtain⟨g1,b,c,ty,g2,g3,g4,g5⟩:=hI.blk r _ hb
 obtain⟨b',e1,e2⟩:=h3 g1.symm
 rw[g2]at e1
 injection e1 with e1
 subst e1
 exact⟨_,c,ty,e2,g2,g1,g3,g4,g5⟩
end
section
variable {P:Program} {w:World}
theorem oK {t:TypeId} {u:TypeDesc} (hu:P.underlying t=some u):(isAgg t).run P w=.ok (rJ u) w:=by
 unfold isAgg
 rw[Sem.run_bind,run_underlying hu w]
 cases u<;>rfl
theorem run_sizeOf {t:TypeId} {i:TypeInfo} (hi:P.info? t=some i):(sizeOf t).run P w=.ok i.size w:=by
 simp[sizeOf,typeInfo,hi]
theorem EM {t:TypeId} {i:TypeInfo} {z:Value} (hi:P.info? t=some i) (hz:i.zero=some z):(zeroValue t).run P w=.ok z w:=by
 simp[zeroValue,typeInfo,hi,hz]
theorem kC {t:TypeId} {d:TD} (h:aJ P t=some d) (ad:Addr) (vs:List Value) (hl:vs.length=d.size) (hc:∀j u,vs[j]?=some u→w.cell? (ad.add j)=some u) (hs:d.agg=false→d.size=1) :
  (loadVar t ad).run P w=.ok (if d.agg then .agg vs.toArray else vs.getD 0 undef) w:=by
 obtain⟨i,z,u,h1,h2,_,_,_,_,h7,h8,_⟩:=aD h
 unfold loadVar
 rw[Sem.run_bind,oK h2,Result.andThen_ok,←h7]
 cases hd:d.agg with
 |true=>
  simp only[if_true]
  rw[Sem.run_bind,run_sizeOf h1,Result.andThen_ok,←h8,←hl,Sem.run_bind,run_loadCells_list (P:=P) w ad vs hc]
  rfl
 |false=>
  simp only[Bool.false_eq_true,if_false]
  have h1:=hs hd
  rw[h1]at hl
  match vs,hl with
  |[x],_=>
   have:=hc 0 x rfl
   rw[run_load]
   simp only[Addr.add,if_true]at this
   rw[this]
   rfl
theorem Og {t:TypeId} {d:TD} (h:aJ P t=some d) (ha:d.agg=false):d.size=1:=by
 obtain⟨i,z,u,h1,h2,h3,h4,_,h6,h7,h8,h9⟩:=aD h
 rw[←h7,ha]at h6
 have hz:z.cells.size=1:=by cases z<;>first|rfl|(cases h6)
 have hl:∀(vs:List Value) (is:List IV),fC vs=some is→is.length=vs.length:=fun vs is h=>qI (Q:=fun _=>True) (w:=default) (dL h)
 have:=hl _ _ h4
 rw[Array.length_toList,hz,h9,←h8]at this
 exact this
end
section
variable {Γ:Ctx} {k:K} {w:World} {s:St} (hI:Inv Γ k s.B w)
include hI
theorem dD {r g sz:Nat} {el:TypeId} {es:List PV} {v:Value} (h:Rep k s.B.length w (.row r g) v) (hb:s.B[r]?=some (.row el sz g es)) :
  ∃xs,v=k.ρ r∧w.ownsRow Γ.N el sz (k.ρ r) es.length xs∧aL k s.B.length w sz es xs∧k.G r=g:=by
 unfold Rep at h
 obtain⟨_,_,_,h3⟩:=h
 obtain⟨g1,xs,g2,g3⟩:=hI.blk r _ hb
 exact⟨xs,h3 g1.symm,g2,g3,g1⟩
theorem jo {r g sz sz' i o:Nat} {el:TypeId} {es:List PV} {v:Value} (h:Rep k s.B.length w (.eptr r g sz i o) v) (hb:s.B[r]?=some (.row el sz' g es)) :
  ∃b,base (k.ρ r)=some b∧v=.pointer (some ⟨b,i*sz+o,none⟩):=by
 unfold Rep at h
 obtain⟨_,_,_,h3⟩:=h
 obtain⟨g1,_⟩:=hI.blk r _ hb
 exact h3 g1.symm
theorem oV {r g sz sz2 q m:Nat} {el:TypeId} {es:List PV} {v:Value} (h:Rep k s.B.length w (.sub r g sz q m) v) (hb:s.B[r]?=some (.row el sz2 g es)) :
  ∃a c ad cap,v=.slice a m c∧m≤c∧c≤maxLen∧q+m≤es.length∧k.G r=g∧k.ρ r=.slice ad es.length cap∧(0 < m→∃b,ad=some ⟨b,0,none⟩∧a=some ⟨b,q*sz,none⟩):=by
 unfold Rep at h
 obtain⟨_,_,_,h3⟩:=h
 obtain⟨g1,xs,g2,_⟩:=hI.blk r _ hb
 obtain⟨a,c,ad,len,cap,e1,e2,e3,e4,e5,e6⟩:=h3 g1.symm
 have hl:len=es.length:=by
  rcases g2.2 with ⟨p1,p2⟩|⟨b,cap',cur,p1,_⟩
  ·rw[e4]at p1;injection p1 with _ p1;omega
  ·rw[e4]at p1;injection p1 with _ p1
 subst hl
 exact⟨a,c,ad,cap,e1,e2,e3,e5,g1,e4,e6⟩
theorem mP {r g sz:Nat} {el:TypeId} {es:List PV} (hb:s.B[r]?=some (.row el sz g es)) (hne:0 < es.length) :
  ∃b cap cur xs,k.ρ r=.slice (some ⟨b,0,none⟩) es.length cap∧Γ.N≤b∧w.heap[b]?=some (.cells cur el (0,0))∧es.length≤cap∧cap≤maxLen∧cur.size=cap*sz∧cur.toList.take (es.length*sz)=xs∧xs.length=es.length*sz∧aL k s.B.length w sz es xs∧k.G r=g:=by
 obtain⟨g1,xs,g2,g3⟩:=hI.blk r _ hb
 rcases g2.2 with ⟨_,e2⟩|⟨b,cap,cur,e1,e2,e3,e4,e5,e6,e7⟩
 ·omega
 ·exact⟨b,cap,cur,xs,e1,e2,e3,e4,e5,e6,e7,g2.1,g3,g1⟩
end
section
variable {k:K} {w:World}
theorem dR {N:Nat} {el:TypeId} {sz n:Nat} {v:Value} {xs:List Value} (h:w.ownsRow N el sz v n xs):∃ad c,v=.slice ad n c:=by
 rcases h.2 with ⟨rfl,rfl⟩|⟨g,cap,cur,rfl,_⟩
 ·exact⟨_,_,rfl⟩
 ·exact⟨_,_,rfl⟩
theorem nQ {N:Nat} {el:TypeId} {sz n:Nat} {v:Value} {xs:List Value} (h:w.ownsRow N el sz v n xs):base v=v.ownBlock:=by
 obtain⟨ad,c,e⟩:=dR h
 subst e
 cases ad<;>rfl
theorem bW {kk:K} {n sz:Nat}:∀{es:List PV} {xs:List Value},aL kk n w sz es xs→xs.length=es.length*sz∧∀u∈xs,u.oneCell'=true
 |[],xs,h=>by unfold aL at h;subst h;simp
 |e::es,xs,h=>by
  unfold aL at h
  obtain⟨v,r,e1,h1,h2,h3,h4⟩:=h
  subst e1
  obtain⟨g1,g2⟩:=bW h4
  refine⟨by rw[List.length_append,Array.length_toList,h1,g1,List.length_cons,Nat.succ_mul];omega,fun u hu=>?_⟩
  rcases List.mem_append.1 hu with hu|hu
  ·exact h2 u hu
  ·exact g2 u hu
theorem Bq {n sz:Nat}:∀{es:List PV} {xs:List Value} {i:Nat} {p:PV},aL k n w sz es xs→es[i]?=some p→∃v,Rep k n w p v∧v.cells.size=sz∧∀j u,v.cells.toList[j]?=some u→xs[i*sz+j]?=some u
 |[],_,_,_,_,h=>by simp at h
 |e::es,xs,0,p,hr,h=>by
  unfold aL at hr
  obtain⟨v,r,e1,h1,h2,h3,h4⟩:=hr
  subst e1
  simp only[List.getElem?_cons_zero,Option.some.injEq]at h
  subst h
  refine⟨v,h3,h1,fun j u hj=>?_⟩
  rw[Nat.zero_mul,Nat.zero_add,List.getElem?_append_left (by have:=(List.getElem?_eq_some_iff.1 hj).1;exact this)]
  exact hj
 |e::es,xs,i+1,p,hr,h=>by
  unfold aL at hr
  obtain⟨v,r,e1,h1,h2,h3,h4⟩:=hr
  subst e1
  obtain⟨v',g1,g2,g3⟩:=Bq h4 (by simpa using h)
  refine⟨v',g1,g2,fun j u hj=>?_⟩
  rw[List.getElem?_append_right (by rw[Array.length_toList,h1,Nat.succ_mul];omega),Array.length_toList,h1]
  rw[show (i+1)*sz+j - sz=i*sz+j by rw[Nat.succ_mul];omega]
  exact g3 j u hj
theorem Ef {n sz:Nat} {p':PV} {v':Value} (hv:v'.cells.size=sz) (h1:∀u∈v'.cells.toList,one u) (hp:Rep k n w p' v'):∀{es:List PV} {xs:List Value} {i:Nat},aL k n w sz es xs→i < es.length→aL k n w sz (es.set i p') (xs.take (i*sz)++v'.cells.toList++xs.drop ((i+1)*sz))
 |[],_,_,_,h=>by simp at h
 |e::es,xs,0,hr,h=>by
  unfold aL at hr
  obtain⟨v,r,e1,g1,g2,g3,g4⟩:=hr
  subst e1
  simp only[List.set_cons_zero]
  unfold aL
  refine⟨v',r,?_,hv,h1,hp,g4⟩
  rw[Nat.zero_mul,List.take_zero,List.nil_append,Nat.zero_add,Nat.one_mul,List.drop_append,List.drop_of_length_le (by rw[Array.length_toList,g1];exact Nat.le_refl _),Array.length_toList,g1]
  simp
 |e::es,xs,i+1,hr,h=>by
  unfold aL at hr
  obtain⟨v,r,e1,g1,g2,g3,g4⟩:=hr
  subst e1
  have ih:=Ef hv h1 hp (i:=i) g4 (by simpa using h)
  simp only[List.set_cons_succ]
  unfold aL
  refine⟨v,_,?_,g1,g2,g3,ih⟩
  have hl:v.cells.toList.length=sz:=by rw[Array.length_toList,g1]
  rw[List.take_append,List.take_of_length_le (by rw[hl,Nat.succ_mul];omega),List.drop_append,List.drop_of_length_le (by rw[hl,Nat.succ_mul];omega),hl]
  rw[show (i+1)*sz - sz=i*sz by rw[Nat.succ_mul];omega,show (i+1+1)*sz - sz=(i+1)*sz by rw[Nat.succ_mul];omega]
  simp
theorem MB {n:Nat} {p:PV} {v:Value} {cs cs':List PV} {vs':List Value} (h:Rep k n w p v) (hc:bZ p=some cs) (hl:cs'.length=cs.length) (hr:aT k n w cs' vs') :
  ∃v',Rep k n w (zR p cs') v'∧v'.cells.toList=vs':=by
 have single:cs.length=1→(∀c,cs'=[c]→zR p cs'=c)→∃v',Rep k n w (zR p cs') v'∧v'.cells.toList=vs':=by
  intro h1 h2
  match cs',hl.trans h1,hr with
  |[c],_,hr=>
   unfold aT at hr
   obtain⟨u,r,e,h3,h4,h5⟩:=hr
   unfold aT at h5
   subst h5
   subst e
   refine⟨u,by rw[h2 c rfl];exact h4,?_⟩
   cases u<;>first|rfl|(simp[one,Value.oneCell']at h3)
 cases p with
 |any=>cases hc
 |tup _=>cases hc
 |agg ps=>exact⟨.agg vs'.toArray,mW (dx.2 ⟨vs',rfl,hr⟩),rfl⟩
 |imm i=>
  cases i with
  |agg is=>exact⟨.agg vs'.toArray,mW (dx.2 ⟨vs',rfl,hr⟩),rfl⟩
  |_=>
   simp only[bZ,jD,Option.some.injEq]at hc
   refine single (by rw[←hc];rfl) (fun c e=>by rw[e];rfl)
 |_=>
  simp only[bZ,Option.some.injEq]at hc
  refine single (by rw[←hc];rfl) (fun c e=>by rw[e];rfl)
end
end Go.Pv
namespace Go.Pv
open Go.RowKit (Below)
theorem fields_of {P:Program}:∀{l:List Field} {fs:List (Nat×Nat×Bool)} {f fo fz:Nat} {fa:Bool},fieldsOf P l=some fs→fs[f]?=some (fo,fz,fa)→∃(fd:Field) (i:TypeInfo) (u:TypeDesc),l[f]?=some fd∧fd.offset=fo∧P.info? fd.type=some i∧i.size=fz∧P.underlying fd.type=some u∧rJ u=fa
 |[],fs,f,fo,fz,fa,h,hf=>by
  simp only[fieldsOf,Option.some.injEq]at h
  subst h
  simp at hf
 |x::r,fs,f,fo,fz,fa,h,hf=>by
  unfold fieldsOf at h
  split at h
  ·rename_i i u gs h1 h2 h3
   simp only[Option.some.injEq]at h
   subst h
   cases f with
   |zero=>
    simp only[List.getElem?_cons_zero,Option.some.injEq,Prod.mk.injEq]at hf
    obtain⟨e1,e2,e3⟩:=hf
    exact⟨x,i,u,rfl,e1,h1,e2,h2,e3⟩
   |succ f=>simpa using fields_of h3 (by simpa using hf)
  ·cases h
theorem Nb {P:Program} {t:TypeId} {u:TypeDesc} {fs:List (Nat×Nat×Bool)} {f fo fz:Nat} {fa:Bool} (hu:P.underlying t=some u) (hk:kindOf P u=some (.struct fs)) (hf:fs[f]?=some (fo,fz,fa)) :
  ∃(fields:Array Field) (fd:Field) (i:TypeInfo),P.underlying t=some (.struct fields)∧fields[f]?=some fd∧fd.offset=fo∧P.info? fd.type=some i∧i.size=fz:=by
 unfold kindOf at hk
 split at hk<;>first|(cases hk;done)|(rename_i n e';cases hq:P.info? e'<;>rw[hq]at hk<;>cases hk;done)|skip
 ·rename_i fields
  cases hq:fieldsOf P fields.toList with
  |none=>rw[hq]at hk;cases hk
  |some gs=>
   rw[hq]at hk
   simp only[Option.map_some,Option.some.injEq,TK.struct.injEq]at hk
   subst hk
   obtain⟨fd,i,u',h1,h2,h3,h4,_⟩:=fields_of hq hf
   exact⟨fields,fd,i,hu,by simpa using h1,h2,h3,h4⟩
theorem zN {P:Program} {t:TypeId} {u:TypeDesc} {fs:List (Nat×Nat×Bool)} {f fo fz:Nat} {fa:Bool} (hu:P.underlying t=some u) (hk:kindOf P u=some (.struct fs)) (hf:fs[f]?=some (fo,fz,fa)) :
  ∃(fields:Array Field) (fd:Field) (i:TypeInfo) (u:TypeDesc),P.underlying t=some (.struct fields)∧fields[f]?=some fd∧fd.offset=fo∧P.info? fd.type=some i∧i.size=fz∧P.underlying fd.type=some u∧rJ u=fa:=by
 unfold kindOf at hk
 split at hk<;>first|(cases hk;done)|(rename_i n e';cases hq:P.info? e'<;>rw[hq]at hk<;>cases hk;done)|skip
 ·rename_i fields
  cases hq:fieldsOf P fields.toList with
  |none=>rw[hq]at hk;cases hk
  |some gs=>
   rw[hq]at hk
   simp only[Option.map_some,Option.some.injEq,TK.struct.injEq]at hk
   subst hk
   obtain⟨fd,i,u',h1,h2,h3,h4,h5,h6⟩:=fields_of hq hf
   exact⟨fields,fd,i,u',hu,by simpa using h1,h2,h3,h4,h5,h6⟩
theorem bH {P:Program} {u:TypeDesc} {e:TypeId} {sz bb:Nat} (hk:kindOf P u=some (.slice e sz bb)):∃i,u=.slice e∧P.info? e=some i∧i.size=sz:=by
 unfold kindOf at hk
 split at hk<;>first|(cases hk;done)|(rename_i n e';cases hq:P.info? e'<;>rw[hq]at hk<;>cases hk;done)|skip
 ·rename_i fields
  cases hq:fieldsOf P fields.toList with
  |none=>rw[hq]at hk;cases hk
  |some gs=>rw[hq]at hk;cases hk
 ·rename_i e'
  cases hq:P.info? e' with
  |none=>rw[hq]at hk;cases hk
  |some i=>
   rw[hq]at hk
   simp only[Option.map_some,Option.some.injEq,TK.slice.injEq]at hk
   obtain⟨e1,e2,e3⟩:=hk
   subst e1
   exact⟨i,rfl,hq,e2⟩
theorem tq {P:Program} {u:TypeDesc} {e:TypeId} {sz bb:Nat} (hk:kindOf P u=some (.slice e sz bb)):∃i,u=.slice e∧P.info? e=some i∧i.size=sz∧i.bytes=bb:=by
 unfold kindOf at hk
 split at hk<;>first|(cases hk;done)|(rename_i n e';cases hq:P.info? e'<;>rw[hq]at hk<;>cases hk;done)|skip
 ·rename_i fields
  cases hq:fieldsOf P fields.toList with
  |none=>rw[hq]at hk;cases hk
  |some gs=>rw[hq]at hk;cases hk
 ·rename_i e'
  cases hq:P.info? e' with
  |none=>rw[hq]at hk;cases hk
  |some i=>
   rw[hq]at hk
   simp only[Option.map_some,Option.some.injEq,TK.slice.injEq]at hk
   obtain⟨e1,e2,e3⟩:=hk
   subst e1
   exact⟨i,rfl,hq,e2,e3⟩
theorem rR {P:Program} {u:TypeDesc} {kk:IntKind} (hk:kindOf P u=some (.int kk)):u=.int kk:=by
 unfold kindOf at hk
 split at hk
 ·simp only[Option.some.injEq,TK.int.injEq]at hk;rw[hk]
 ·cases hk
 ·cases hk
 ·rename_i fields
  cases hq:fieldsOf P fields.toList with
  |none=>rw[hq]at hk;cases hk
  |some gs=>rw[hq]at hk;cases hk
 ·rename_i e'
  cases hq:P.info? e' with
  |none=>rw[hq]at hk;cases hk
  |some i=>rw[hq]at hk;cases hk
 ·cases hk
 ·cases hk
 ·cases hk
 ·rename_i n e'
  cases hq:P.info? e' with
  |none=>rw[hq]at hk;cases hk
  |some i=>rw[hq]at hk;cases hk
 ·cases hk
theorem kM {P:Program} {u:TypeDesc} (hk:kindOf P u=some .str):u=.string:=by
 unfold kindOf at hk
 split at hk<;>first|rfl|(cases hk;done)|(rename_i n e';cases hq:P.info? e'<;>rw[hq]at hk<;>cases hk;done)|skip
 ·rename_i fields
  cases hq:fieldsOf P fields.toList with
  |none=>rw[hq]at hk;cases hk
  |some gs=>rw[hq]at hk;cases hk
section
variable {P:Program} {Γ:Ctx} {k:K} {w:World} {a:Act} {s:St} (hI:Inv Γ k s.B w) {look:Operand→PV} (hT:∀x,Rep k s.B.length w (look x) (a.eval x)) {o:Oper} {id:Nat} {get:Nat→Option Blk} {cr:List Orc} {out:Out} (hget:∀r b,get r=some b→s.B[r]?=some b)
include hI hT hget
omit hget in
theorem zB {x:Operand} (ho:o.op=.move x∨o.op=.assign x):Does P Γ k w a s.B o ⟨look x,[],none⟩:=by
 refine au hI ?_ (hT x)
 rcases ho with ho|ho<;>simp[execOp,ho]
omit hget in
theorem Kr {c x y:Operand} (ho:o.op=.pick c x y) (h:ak P Γ.eqT o id look get cr=some out):Does P Γ k w a s.B o out:=by
 unfold ak at h
 simp only[ho]at h
 split at h
 ·rename_i t hc
  simp only[val,Option.some.injEq]at h
  subst h
  have e:=hT c
  rw[hc]at e
  have ec:=ny e
  refine au hI (v:=if t then a.eval x else a.eval y) ?_ ?_
  ·simp[execOp,ho,asBool,ec]
  ·cases t
   ·exact hT y
   ·exact hT x
 ·cases h
omit hT in
theorem FU {cells:Array Value} {ty:TypeId} {cs:List PV} {g:Nat} {t':Option TypeId} (hg:get id=some (.dead g)) (he:(execOp a.eval o).run P w=.ok (.value (.pointer (some ⟨w.heap.size,0,none⟩))) (w.alloc (.cells cells ty)))
  (hL:aT k s.B.length w cs cells.toList) (ht':t'.getD ty=ty:=by rfl):Does P Γ k w a s.B o ⟨.ptr id (g+1) 0,[(id,.box (g+1) cs t')],none⟩:=by
 have hd:=hget _ _ hg
 have hG:k.G id=g:=hI.blk id _ hd
 obtain⟨h1,h2⟩:=bJ (v:=.pointer (some ⟨w.heap.size,0,none⟩)) (g:=g+1) (y:=.box (g+1) cs t') (w':=w.alloc (.cells cells ty)) hI hd (Or.inl (by omega)) ((Below.refl _ _).alloc hI.le _)
  (fun b hb _=>Below.heap_alloc _ _ _ hb) (fun b hb=>by
   injection hb with hb
   subst hb
   exact⟨Or.inl (Nat.le_refl _),by simp⟩) (fun hx=>by
   refine⟨K.bP _ _ _ _,w.heap.size,cells,ty,K.bL _ _ _ _,hI.le,by rw[ht'];exact heap_alloc_new w _,?_⟩
   exact fT hx cs _ hL)
 refine bI he h1 (by unfold aY;unfold aY;exact h2) ?_
 unfold Rep
 refine⟨rfl,(List.getElem?_eq_some_iff.1 hd).1,Nat.le_of_eq (K.bP _ _ _ _).symm,fun _=>⟨w.heap.size,?_,rfl⟩⟩
 rw[K.bL]
 rfl
omit hI hT hget in
theorem GH {P:Program} {u:TypeDesc} {n sz:Nat} {e:TypeId} (hk:kindOf P u=some (.arr n e sz)):∃i,u=.array n e∧P.info? e=some i∧i.size=sz:=by
 unfold kindOf at hk
 split at hk<;>first|(cases hk;done)|(rename_i fields;cases hq:fieldsOf P fields.toList<;>rw[hq]at hk<;>cases hk;done)|(rename_i e';cases hq:P.info? e'<;>rw[hq]at hk<;>cases hk;done)|skip
 rename_i n' e'
 cases hq:P.info? e' with
 |none=>rw[hq]at hk;cases hk
 |some i=>
  rw[hq]at hk
  simp only[Option.map_some,Option.some.injEq,TK.arr.injEq]at hk
  obtain⟨rfl,rfl,rfl⟩:=hk
  exact⟨i,rfl,hq,rfl⟩
omit hI hT hget in
theorem cells_one {v:Value} (h:one v):v.cells=#[v]:=by
 unfold one at h
 cases v<;>first|rfl|(simp[Value.oneCell']at h)
omit hI hT hget in
theorem Es {kk:K} {n:Nat}:∀{cs:List PV} {vs:List Value},aT kk n w cs vs→aL kk n w 1 cs vs
 |[],vs,h=>by unfold aT at h;unfold aL;exact h
 |c::cs,vs,h=>by
  unfold aT at h
  obtain⟨v,r,rfl,h1,h2,h3⟩:=h
  unfold aL
  refine⟨v,r,by rw[cells_one h1];rfl,by rw[cells_one h1];rfl,fun u hu=>?_,h2,Es h3⟩
  rw[cells_one h1]at hu
  simp only[List.mem_singleton]at hu
  rw[hu];exact h1
omit hI hT hget in
theorem sP {kk:K} {n:Nat}:∀{es:List PV} {xs:List Value} (q m:Nat),aL kk n w 1 es xs→aL kk n w 1 ((es.drop q).take m) ((xs.drop q).take m)
 |[],xs,q,m,h=>by unfold aL at h;subst h;simp[aL]
 |e::es,xs,q,m,h=>by
  have h0:=h
  unfold aL at h
  obtain⟨v,r,rfl,h1,h2,h3,h4⟩:=h
  obtain⟨x,hx⟩:∃x,v.cells.toList=[x]:=by
   have hl:v.cells.toList.length=1:=by simpa using h1
   match v.cells.toList,hl with
   |[x],_=>exact⟨x,rfl⟩
  cases q with
  |succ q=>
   rw[hx]
   exact sP q m h4
  |zero=>
   cases m with
   |zero=>simp[aL]
   |succ m=>
    have ih:=sP 0 m h4
    rw[hx]
    simp only[List.drop_zero,List.take_succ_cons,List.singleton_append]at ih ⊢
    unfold aL
    exact⟨v,_,by rw[hx];rfl,h1,h2,h3,ih⟩
omit hT in
theorem H8 {t:TypeId} (ho:o.op=.alloc t) (h:ak P Γ.eqT o id look get cr=some out):Does P Γ k w a s.B o out:=by
 unfold ak at h
 simp only[ho]at h
 split at h
 ·rename_i d g hd hg
  split at h
  ·rename_i n ha
   split at h
   ·rename_i hc
    obtain⟨hn,hp,hm⟩:=hc
    simp only[Option.some.injEq]at h
    subst h
    obtain⟨i,z,u,h1,h2,h3,h4,_⟩:=aD hd
    have hdd:=hget _ _ hg
    have hG:k.G id=g:=hI.blk id _ hdd
    have hE:aL k s.B.length w 1 (d.zero.map .imm) z.cells.toList:=Es (nG (dL h4))
    have hl:=(bW hE).1
    rw[List.length_map,Nat.mul_one,←hn]at hl
    have hrun:(execOp a.eval o).run P w=.ok (.value (.pointer (some ⟨w.heap.size,0,none⟩))) (w.alloc (.cells z.cells t)):=by
     simp[execOp,ho,Instr.alloc,zeroValue,typeInfo,h1,h3,newVar,newRow]
    have hown:(w.alloc (.cells z.cells t)).ownsRow Γ.N t 1 (.slice (some ⟨w.heap.size,0,none⟩) n n) n z.cells.toList:=by
     refine⟨by omega,Or.inr ⟨w.heap.size,n,z.cells,rfl,hI.le,heap_alloc_new w _,Nat.le_refl _,?_,?_,?_⟩⟩
     ·unfold most at hm;simp only[maxLen];omega
     ·rw[←Array.length_toList];omega
     ·rw[List.take_of_length_le (by omega)]
    obtain⟨r1,r2⟩:=bJ (v:=.slice (some ⟨w.heap.size,0,none⟩) n n) (g:=g+1) (y:=.row t 1 (g+1) (d.zero.map .imm)) (w':=w.alloc (.cells z.cells t)) hI hdd (Or.inl (by omega)) ((Below.refl _ _).alloc hI.le _)
     (fun b hb _=>Below.heap_alloc _ _ _ hb) (fun b hb=>by
      injection hb with hb
      subst hb
      exact⟨Or.inl (Nat.le_refl _),by simp⟩) (fun hx=>⟨K.bP _ _ _ _,z.cells.toList,by rw[K.bL,List.length_map,←hn];exact hown,bf hx _ _ hE⟩)
    refine bI hrun r1 (by unfold aY;unfold aY;exact r2) ?_
    unfold Rep
    exact⟨rfl,(List.getElem?_eq_some_iff.1 hdd).1,Nat.le_of_eq (K.bP _ _ _ _).symm,fun _=>⟨w.heap.size,by rw[K.bL];rfl,by simp⟩⟩
   ·cases h
  simp only[Option.some.injEq]at h
  subst h
  obtain⟨i,z,u,h1,h2,h3,h4,_⟩:=aD hd
  refine FU hI hget hg ?_ (nG (dL h4)) (by unfold Sg;split<;>rfl) (ty:=t)
  simp[execOp,ho,Instr.alloc,zeroValue,typeInfo,h1,h3,newVar,newRow]
 ·cases h
theorem Nt {t:TypeId} {x:Operand} (ho:o.op=.box t x) (h:ak P Γ.eqT o id look get cr=some out):Does P Γ k w a s.B o out:=by
 unfold ak at h
 simp only[ho]at h
 split at h
 ·rename_i cs g hc hg
  simp only[Option.some.injEq]at h
  subst h
  refine FU hI hget hg ?_ (eO (hT x) hc) (ty:=t)
  simp[execOp,ho,Instr.box,newVar,newRow]
 ·cases h
omit hI hT hget in
theorem jB {t:TypeId} {d:TD} (hd:aJ P t=some d) {b A off:Nat} {vs:List Value} {cs:List PV} {p:PV} {kk:K} {n:Nat} (hr:aT kk n w cs vs) (hc:∀j u,vs[off+j]?=some u→w.cell? ⟨b,A+j,none⟩=some u)
  (hp:kg cs off d.size d.agg=some p):∃v,(Instr.loadAt t (.pointer (some ⟨b,A,none⟩))).run P w=.ok v w∧Rep kk n w p v:=by
 have hadd:∀j,(⟨b,A,none⟩:Addr).add j=⟨b,A+j,none⟩:=fun j=>by unfold Addr.add;split<;>simp_all
 unfold kg at hp
 cases ha:d.agg with
 |true=>
  rw[ha]at hp
  simp only[if_true]at hp
  split at hp
  ·rename_i hle
   simp only[Option.some.injEq]at hp
   subst hp
   have hlen:=fZ hr
   have hx:=jr (jl hr off) d.size
   refine⟨.agg ((vs.drop off).take d.size).toArray,?_,mW (dx.2 ⟨_,rfl,hx⟩)⟩
   have hl:((vs.drop off).take d.size).length=d.size:=by rw[List.length_take,List.length_drop];omega
   have:=kC (w:=w) hd ⟨b,A,none⟩ ((vs.drop off).take d.size) hl (fun j u hj=>by
    rw[hadd]
    rw[List.getElem?_take]at hj
    split at hj
    ·rw[List.getElem?_drop]at hj;exact hc j u hj
    ·cases hj) (fun e=>by rw[ha]at e;cases e)
   rw[ha]at this
   simpa[Instr.loadAt,Instr.sureAddr]using this
  ·cases hp
 |false=>
  rw[ha]at hp
  simp only[Bool.false_eq_true,if_false]at hp
  obtain⟨v,hv,_,hrep⟩:=Cg hr off p hp
  have h1:=Og hd ha
  refine⟨v,?_,hrep⟩
  have:=kC (w:=w) hd ⟨b,A,none⟩ [v] (by rw[h1];rfl) (fun j u hj=>by
   rw[hadd]
   cases j with
   |zero=>simp only[List.getElem?_cons_zero,Option.some.injEq]at hj;subst hj;exact hc 0 v hv
   |succ j=>simp at hj) (fun _=>h1)
  rw[ha]at this
  simpa[Instr.loadAt,Instr.sureAddr]using this
theorem KX {t:TypeId} {x:Operand} (ho:o.op=.load t x) (h:ak P Γ.eqT o id look get cr=some out):Does P Γ k w a s.B o out:=by
 unfold ak at h
 simp only[ho]at h
 have e:=hT x
 split at h
 ·rename_i d r g off hd hx
  split at h
  ·rename_i g' cs bt hg
   split at h
   ·rename_i hgg
    subst hgg
    cases hp:kg cs off d.size d.agg with
    |none=>rw[hp]at h;cases h
    |some p=>
     rw[hp]at h
     simp only[Option.bind_some,val,Option.some.injEq]at h
     subst h
     rw[hx]at e
     obtain⟨b,c,ty,ev,_,_,_,hh,hL⟩:=j3 hI e (hget _ _ hg)
     obtain⟨v,hrun,hrep⟩:=jB (P:=P) (w:=w) hd (b:=b) hL (fun j u hj=>by rw[World.cell?,hh];simpa using hj) hp
     refine au hI (v:=v) ?_ hrep
     simp[execOp,ho,ev,hrun]
   ·cases h
  ·cases h
 ·rename_i d r g sz i off hd hx
  split at h
  ·rename_i el sz' g' es hg
   split at h
   ·rename_i hc
    obtain⟨rfl,rfl⟩:=hc
    split at h
    ·rename_i q hq
     split at h
     ·rename_i cs hcs
      cases hp:kg cs off d.size d.agg with
      |none=>rw[hp]at h;cases h
      |some p=>
       rw[hp]at h
       simp only[Option.bind_some,val,Option.some.injEq]at h
       subst h
       rw[hx]at e
       have hlt:i < es.length:=(List.getElem?_eq_some_iff.1 hq).1
       obtain⟨b,hb1,ev⟩:=jo hI e (hget _ _ hg)
       obtain⟨b',cap,cur,xs,e1,e2,e3,e4,e5,e6,e7,e8,e9,_⟩:=mP hI (hget _ _ hg) (by omega)
       rw[e1]at hb1
       injection hb1 with hb1
       subst hb1
       obtain⟨vq,r1,r2,r3⟩:=Bq e9 hq
       obtain⟨v,hrun,hrep⟩:=jB (P:=P) (w:=w) hd (b:=b') (A:=i*sz+off) (eO r1 hcs) (fun j u hj=>by
        have h1:=r3 _ u hj
        rw[←e7,List.getElem?_take]at h1
        split at h1
        ·rw[World.cell?,e3]
         rw[show i*sz+off+j=i*sz+(off+j) by omega]
         simpa using h1
        ·cases h1) hp
       refine au hI (v:=v) ?_ hrep
       simp[execOp,ho,ev,hrun]
     ·cases h
    ·cases h
   ·cases h
  ·cases h
 ·rename_i d cs hd hx
  cases hp:qR cs 0 d.size d.agg with
  |none=>rw[hp]at h;cases h
  |some p=>
   rw[hp]at h
   simp only[Option.bind_some,val,Option.some.injEq]at h
   subst h
   rw[hx]at e
   unfold Rep at e
   obtain⟨b,off,vs,ev,hq,hC,hcell⟩:=e
   have hadd:∀j,(⟨b,off,none⟩:Addr).add j=⟨b,off+j,none⟩:=fun j=>by unfold Addr.add;split<;>simp_all
   unfold qR at hp
   cases ha:d.agg with
   |true=>
    rw[ha]at hp
    simp only[if_true,Nat.zero_add,List.drop_zero]at hp
    split at hp
    ·rename_i hle
     simp only[Option.some.injEq]at hp
     subst hp
     have hlen:=qI hC
     refine au hI (v:=.agg (vs.take d.size).toArray) ?_ (aB.2 (bG.2 ⟨_,rfl,sJ hC _⟩))
     have:=kC (w:=w) hd ⟨b,off,none⟩ (vs.take d.size) (by rw[List.length_take];omega) (fun j u hj=>by
      rw[hadd]
      rw[List.getElem?_take]at hj
      split at hj
      ·exact hcell j u hj
      ·cases hj) (fun e=>by rw[ha]at e;cases e)
     rw[ha]at this
     simp only[if_true]at this
     simp[execOp,ho,ev,Instr.loadAt,Instr.sureAddr,this]
    ·cases hp
   |false=>
    rw[ha]at hp
    simp only[Bool.false_eq_true,if_false]at hp
    obtain⟨v,hv,_,hrep⟩:=Bf hC 0 p hp
    have h1:=Og hd ha
    refine au hI (v:=v) ?_ (aB.2 hrep)
    have:=kC (w:=w) hd ⟨b,off,none⟩ [v] (by rw[h1];rfl) (fun j u hj=>by
     rw[hadd]
     cases j with
     |zero=>simp only[List.getElem?_cons_zero,Option.some.injEq]at hj;subst hj;exact hcell 0 v hv
     |succ j=>simp at hj) (fun _=>h1)
    rw[ha]at this
    simp only[Bool.false_eq_true,if_false]at this
    simp[execOp,ho,ev,Instr.loadAt,Instr.sureAddr,this]
 ·cases h
omit hI hT hget in
theorem lq {kk:K} {n:Nat}:∀{cs:List PV} {vs:List Value},aT kk n w cs vs→∀v∈vs,v.oneCell'=true
 |[],vs,h,v,hv=>by unfold aT at h;subst h;cases hv
 |c::cs,vs,h,v,hv=>by
  unfold aT at h
  obtain⟨x,r,e,h0,_,h2⟩:=h
  subst e
  rcases List.mem_cons.1 hv with rfl|hv
  ·exact h0
  ·exact lq h2 v hv
theorem Ig {t:TypeId} {x y:Operand} (ho:o.op=.store t x y) (h:ak P Γ.eqT o id look get cr=some out):Does P Γ k w a s.B o out:=by
 unfold ak at h
 simp only[ho]at h
 have e:=hT x
 have ey:=hT y
 split at h
 ·rename_i d r g off ys hd hx hy
  split at h
  ·rename_i g' cs bt hg
   split at h
   ·rename_i hc
    obtain⟨rfl,hsz,hle⟩:=hc
    simp only[Option.some.injEq]at h
    subst h
    rw[hx]at e
    have hb:=hget _ _ hg
    obtain⟨b,c,ty,ev,hρ,hG,hN,hh,hL⟩:=j3 hI e hb
    have hY:=eO ey hy
    have hYl:=fZ hY
    have hLl:cs.length=c.size:=by rw[fZ hL,Array.length_toList]
    obtain⟨i,z,u,h1,h2,_,_,_,_,_,h8,_⟩:=aD hd
    have hst:=run_storeCells_at P b off (bt.getD ty) (a.eval y).cells.toList 0 c w hh (by rw[←hYl,hsz];simp only[Nat.add_zero];omega) (lq hY)
    simp only[Nat.add_zero]at hst
    have hlt:b < w.heap.size:=(Array.getElem?_eq_some_iff.1 hh).1
    obtain⟨q1,q2⟩:=bJ (v:=k.ρ r) (g:=g) (y:=.box g (cs.take off++ys++cs.drop (off+d.size)) bt) (w':=w.setRow b (c.toList.take off++(a.eval y).cells.toList++c.toList.drop (off+(a.eval y).cells.toList.length)).toArray) hI hb (Or.inr ⟨hG,rfl⟩)
     ⟨rfl,rfl,rfl,by simp,fun j hj=>setRow_other w b j _ (by omega)⟩ (fun j _ hne=>setRow_other w b j _ (by
      intro e
      apply hne
      show some j=base (k.ρ r)
      rw[hρ,e];rfl)) (fun j hj=>by
      rw[hρ]at hj
      injection hj with hj
      subst hj
      exact⟨Or.inr (by show base (k.ρ r)=_;rw[hρ];rfl),by simpa using hlt⟩) (fun hx=>by
      refine⟨K.bP _ _ _ _,b,_,ty,by rw[K.bL];exact hρ,hN,setRow_heap w b c _ (bt.getD ty) _ hh,?_⟩
      have hz:(a.eval y).cells.toList.length=d.size:=by rw[←hYl];exact hsz
      rw[show d.size=(a.eval y).cells.toList.length from hz.symm]
      exact fT hx _ _ (gB (gB (jr hL off) hY) (jl hL _)))
    refine ou (w':=w.setRow b (c.toList.take off++(a.eval y).cells.toList++c.toList.drop (off+(a.eval y).cells.toList.length)).toArray) ?_ q1 (by unfold aY;unfold aY;exact q2)
    have hz:(a.eval y).cells.size=i.size:=by rw[←h8,←hsz,hYl,Array.length_toList]
    simp[execOp,ho,ev,Instr.storeAt,Instr.sureAddr,storeVar,sizeOf,typeInfo,h1,hz,hst]
   ·cases h
  ·cases h
 ·rename_i d r g sz i off ys hd hx hy
  split at h
  ·rename_i el sz' g' es hg
   split at h
   ·rename_i hc
    obtain⟨rfl,rfl,hsz⟩:=hc
    split at h
    ·rename_i q hq
     split at h
     ·rename_i cs hcs
      split at h
      ·rename_i hle
       simp only[Option.some.injEq]at h
       subst h
       rw[hx]at e
       have hlt:i < es.length:=(List.getElem?_eq_some_iff.1 hq).1
       have hb:=hget _ _ hg
       obtain⟨b,hb1,ev⟩:=jo hI e hb
       obtain⟨b',cap,cur,xs,e1,e2,e3,e4,e5,e6,e7,e8,e9,eG⟩:=mP hI hb (by omega)
       rw[e1]at hb1
       injection hb1 with hb1
       subst hb1
       obtain⟨vq,r1,r2,r3⟩:=Bq e9 hq
       have hL:=eO r1 hcs
       have hLl:cs.length=sz:=by rw[fZ hL,Array.length_toList,r2]
       have hY:=eO ey hy
       have hYl:ys.length=(a.eval y).cells.size:=by rw[fZ hY,Array.length_toList]
       have hin:(i+1)*sz≤es.length*sz:=Nat.mul_le_mul_right _ hlt
       have hin2:es.length*sz≤cap*sz:=Nat.mul_le_mul_right _ e4
       rw[Nat.succ_mul]at hin
       obtain⟨inf,z,u,h1,h2,_,_,_,_,_,h8,_⟩:=aD hd
       have hst:=run_storeCells_at P b' (i*sz+off) el (a.eval y).cells.toList 0 cur w e3 (by simp only[Nat.add_zero,Array.length_toList];omega) (lq hY)
       simp only[Nat.add_zero]at hst
       have hlt2:b' < w.heap.size:=(Array.getElem?_eq_some_iff.1 e3).1
       obtain⟨v',j1,j2⟩:=MB r1 hcs (cs':=cs.take off++ys++cs.drop (off+d.size)) (by simp;omega) (gB (gB (jr hL off) hY) (jl hL (off+d.size)))
       have hv':v'.cells.size=sz:=by
        rw[←Array.length_toList,j2]
        simp[r2]
        omega
       have hxs:xs.take (i*sz)++v'.cells.toList++xs.drop ((i+1)*sz)=xs.take (i*sz+off)++(a.eval y).cells.toList++xs.drop (i*sz+off+(a.eval y).cells.size):=by
        have hvq:vq.cells.toList=(xs.drop (i*sz)).take sz:=by
         apply List.ext_getElem?
         intro j
         by_cases hj:j < sz
         ·have hj2:j < vq.cells.toList.length:=by rw[Array.length_toList,r2];exact hj
          have:=r3 j _ (List.getElem?_eq_getElem hj2)
          rw[List.getElem?_take,if_pos hj,List.getElem?_drop,this,List.getElem?_eq_getElem hj2]
         ·rw[List.getElem?_eq_none (by rw[Array.length_toList,r2];omega),List.getElem?_take,if_neg hj]
        rw[j2,hvq]
        have a1:xs.take (i*sz+off)=xs.take (i*sz)++((xs.drop (i*sz)).take sz).take off:=by
         rw[List.take_take,Nat.min_eq_left (by omega),←List.take_add]
        have a2:xs.drop (i*sz+off+(a.eval y).cells.size)=((xs.drop (i*sz)).take sz).drop (off+d.size)++xs.drop ((i+1)*sz):=by
         rw[List.drop_take,List.drop_drop,←hYl,hsz]
         have:=(List.take_append_drop (sz - (off+d.size)) (xs.drop (i*sz+(off+d.size)))).symm
         rw[List.drop_drop,show i*sz+(off+d.size)+(sz - (off+d.size))=(i+1)*sz by rw[Nat.succ_mul];omega]at this
         rw[show i*sz+off+d.size=i*sz+(off+d.size) by omega]
         exact this
        rw[a1,a2]
        simp only[List.append_assoc]
       obtain⟨q1,q2⟩:=bJ (v:=k.ρ r) (g:=g) (y:=.row el sz g (es.set i (zR q (cs.take off++ys++cs.drop (off+d.size))))) (w':=w.setRow b' (cur.toList.take (i*sz+off)++(a.eval y).cells.toList++cur.toList.drop (i*sz+off+(a.eval y).cells.toList.length)).toArray) hI hb (Or.inr ⟨eG,rfl⟩)
        ⟨rfl,rfl,rfl,by simp,fun j hj=>setRow_other w b' j _ (by omega)⟩ (fun j _ hne=>setRow_other w b' j _ (by
         intro e
         apply hne
         show some j=base (k.ρ r)
         rw[e1,e];rfl)) (fun j hj=>by
         rw[e1]at hj
         injection hj with hj
         subst hj
         exact⟨Or.inr (by show base (k.ρ r)=_;rw[e1];rfl),by simpa using hlt2⟩) (fun hx=>by
         refine⟨K.bP _ _ _ _,xs.take (i*sz)++v'.cells.toList++xs.drop ((i+1)*sz),?_,bf hx _ _ (Ef hv' (fun u hu=>?_) j1 e9 hlt)⟩
         ·rw[K.bL,List.length_set]
          refine⟨?_,Or.inr ⟨b',cap,_,e1,e2,setRow_heap w b' cur _ el _ e3,e4,e5,?_,?_⟩⟩
          ·rw[hxs]
           simp[e8]
           omega
          ·simp
           omega
          ·rw[hxs,←e7]
           simp only[Array.length_toList]
           rw[List.take_append,List.take_append]
           simp only[List.length_append,List.length_take,Array.length_toList]
           rw[Nat.min_eq_left (by omega)]
           rw[List.take_take,List.take_take,Nat.min_eq_right (by omega),Nat.min_eq_left (by omega)]
           rw[List.take_of_length_le (l:=(a.eval y).cells.toList) (by rw[Array.length_toList];omega)]
           congr 1
           rw[List.drop_take]
         ·exact lq (gB (gB (jr hL off) hY) (jl hL (off+d.size))) u (by rw[←j2];exact hu))
       refine ou (w':=w.setRow b' (cur.toList.take (i*sz+off)++(a.eval y).cells.toList++cur.toList.drop (i*sz+off+(a.eval y).cells.toList.length)).toArray) ?_ q1 (by unfold aY;unfold aY;exact q2)
       have hz:(a.eval y).cells.size=inf.size:=by rw[←h8,←hsz,hYl]
       simp[execOp,ho,ev,Instr.storeAt,Instr.sureAddr,storeVar,sizeOf,typeInfo,h1,hz,hst]
      ·cases h
     ·cases h
    ·cases h
   ·cases h
  ·cases h
 ·cases h
theorem L8 {x:Operand} (ho:o.op=.nilCheck x) (h:ak P Γ.eqT o id look get cr=some out):Does P Γ k w a s.B o out:=by
 unfold ak at h
 simp only[ho]at h
 have e:=hT x
 split at h
 ·rename_i r g off hx
  split at h
  ·rename_i g' cs bt hg
   split at h
   ·rename_i hgg
    subst hgg
    simp only[val,Option.some.injEq]at h
    subst h
    rw[hx]at e
    obtain⟨b,c,ty,ev,_⟩:=j3 hI e (hget _ _ hg)
    refine au hI (v:=a.eval x) ?_ e
    simp[execOp,ho,ev]
   ·cases h
  ·cases h
 ·rename_i cs hx
  simp only[val,Option.some.injEq]at h
  subst h
  rw[hx]at e
  have e':=e
  unfold Rep at e'
  obtain⟨b,off,vs,ev,_⟩:=e'
  refine au hI (v:=a.eval x) ?_ e
  simp[execOp,ho,ev]
 ·rename_i f cs hx
  simp only[val,Option.some.injEq]at h
  subst h
  rw[hx]at e
  have e':=e
  unfold Rep at e'
  obtain⟨vs,ev,_⟩:=e'
  refine au hI (v:=a.eval x) ?_ e
  simp[execOp,ho,ev]
 ·rename_i f hx
  simp only[val,Option.some.injEq]at h
  subst h
  rw[hx]at e
  have ev:=Gs e
  refine au hI (v:=a.eval x) ?_ e
  simp[execOp,ho,ev]
 ·rename_i f cs hx
  simp only[val,Option.some.injEq]at h
  subst h
  rw[hx]at e
  have e':=aB.1 e
  unfold aF at e'
  obtain⟨vs,ev,_⟩:=e'
  refine au hI (v:=a.eval x) ?_ e
  simp[execOp,ho,ev]
 ·cases h
omit hI hT hget in
theorem NR {op : BinOp} {t : TypeId} {x y : Operand} {u v : Value} {p q : PV} {i : IV} (hp : Rep k s.B.length w p u) (hq : Rep k s.B.length w q v) (h : IB op p q = some i) :
   ∃ z, ((do eqGuard op t x y u v; binOp op t u v) : Sem Value).run P w = .ok z w ∧ aF k.Q w i z := by
 unfold IB at h
 split at h
 · rename_i ka za kb zb
   have e1 := bS hp
   have e2 := bS hq
   subst e1; subst e2
   split at h
   · unfold qo at h
     split at h
     · split at h
       · cases h
       · rename_i hb
         simp only [Option.some.injEq] at h
         subst h
         refine ⟨_, ?_, by unfold aF; rfl⟩
         simp only [eqGuard, binOp, Op.shift]
         rw [if_neg hb]
         simp
     · split at h
       · cases h
       · rename_i hb
         simp only [Option.some.injEq] at h
         subst h
         refine ⟨_, ?_, by unfold aF; rfl⟩
         simp only [eqGuard, binOp, Op.shift]
         rw [if_neg hb]
         simp
     · cases h
   · split at h
     · rename_i hk
       subst hk
       unfold Dc at h
       split at h <;> first
         | (cases h; done)
         | (simp only [Option.some.injEq] at h
            subst h
            refine ⟨_, ?_, by unfold aF; rfl⟩
            simp [eqGuard, binOp, Op.intArith, Op.intCmp, Op.intBits]
            done)
         | (split at h
            · cases h
            · rename_i hb
              simp only [Option.some.injEq] at h
              subst h
              refine ⟨_, ?_, by unfold aF; rfl⟩
              simp [eqGuard, binOp, Op.intDiv, hb])
     · cases h
 · rename_i sa sb
   have e1 := lI hp
   have e2 := lI hq
   subst e1; subst e2
   unfold Cr at h
   have hbeq : (sa.toList == sb.toList) = decide (sa = sb) := by
     rw [Bool.eq_iff_iff, beq_iff_eq, decide_eq_true_eq, Go.ByteArray.toList_eq, Go.ByteArray.toList_eq]
     exact ⟨fun h => by
       have := congrArg List.toArray h
       cases sa; cases sb
       simp_all, fun h => by rw [h]⟩
   have hlss : Op.bytesLess sa.toList sb.toList = gY sa sb := by rw [Go.ByteArray.toList_eq, Go.ByteArray.toList_eq]; rfl
   split at h
   · simp only [Option.some.injEq] at h
     subst h
     exact ⟨.bool (decide (sa = sb)), by simp [eqGuard, binOp, Op.stringOp, hbeq], by unfold aF; rfl⟩
   · simp only [Option.some.injEq] at h
     subst h
     exact ⟨.bool (!decide (sa = sb)), by simp [eqGuard, binOp, Op.stringOp, hbeq], by unfold aF; rfl⟩
   · split at h
     · rename_i hle
       simp only [Option.some.injEq] at h
       subst h
       unfold most at hle
       refine ⟨_, ?_, by unfold aF; rfl⟩
       have : ¬ ((sa.size + sb.size : Nat) : Int) > IntKind.i64.max := by rw [IntKind.max_i64]; omega
       simp only [eqGuard, binOp, Op.stringOp]
       rw [if_neg this]
       simp
     · cases h
   · simp only [Option.some.injEq] at h
     subst h
     exact ⟨.bool (gY sa sb), by simp [eqGuard, binOp, Op.stringOp, hlss], by unfold aF; rfl⟩
   · simp only [Option.some.injEq] at h
     subst h
     exact ⟨.bool (gY sa sb || decide (sa = sb)), by simp [eqGuard, binOp, Op.stringOp, hlss, hbeq], by unfold aF; rfl⟩
   · simp only [Option.some.injEq] at h
     subst h
     exact ⟨.bool (!(gY sa sb || decide (sa = sb))), by simp [eqGuard, binOp, Op.stringOp, hlss, hbeq], by unfold aF; rfl⟩
   · simp only [Option.some.injEq] at h
     subst h
     exact ⟨.bool (!gY sa sb), by simp [eqGuard, binOp, Op.stringOp, hlss], by unfold aF; rfl⟩
   · cases h
 · cases h
omit hI hT hget in
theorem I4 {v:Value} (h:Rep k s.B.length w (.imm .np) v):v=.pointer none:=by rw[aB]at h;unfold aF at h;exact h
omit hI hT hget in
theorem IQ {P:Program} {u:TypeDesc} {e:TypeId} (hk:kindOf P u=some (.ptr e)):u=.pointer e:=by
 unfold kindOf at hk
 split at hk<;>first|(injection hk with hk;injection hk with hk;subst hk;rfl)|(cases hk;done)|(rename_i n e';cases hq:P.info? e'<;>rw[hq]at hk<;>cases hk;done)|skip
 ·rename_i fields
  cases hq:fieldsOf P fields.toList with
  |none=>rw[hq]at hk;cases hk
  |some gs=>rw[hq]at hk;cases hk
omit hI hT hget in
theorem CO {v:Value} (h:Rep k s.B.length w (.imm .nf) v):v=.nilFunc:=by rw[aB]at h;unfold aF at h;exact h
omit hI hT hget in
theorem Pm {f:FuncId} {cs:List PV} {v:Value} (h:Rep k s.B.length w (.clo f cs) v):∃vs:List Value,v=.func (.func f) #[] vs.toArray:=by unfold Rep at h;obtain⟨vs,e,_⟩:=h;exact⟨vs,e⟩
omit hI hT hget in
theorem BZ {P:Program} {t:TypeId} {a b:Array TypeId} {c:Bool} (hu:P.underlying t=some (.func a b c)) (d:Nat) (f:Fn) (x y:Array Value) (w:World):(Op.equalIn (d+1) t (.func f x y) .nilFunc).run P w=.ok false w:=by
 simp[Op.equalIn,run_underlying hu]
omit hI hT hget in
theorem yL {P:Program} {t:TypeId} {a b:Array TypeId} {c:Bool} (hu:P.underlying t=some (.func a b c)) (d:Nat) (w:World):(Op.equalIn (d+1) t .nilFunc .nilFunc).run P w=.ok true w:=by
 simp[Op.equalIn,run_underlying hu]
omit hI hT hget in
theorem vN {P:Program} {t:TypeId} {a b:Array TypeId} {c:Bool} (hu:P.underlying t=some (.func a b c)) (f:Fn) (x y:Array Value) (w:World):(Op.equal t (.func f x y) .nilFunc).run P w=.ok false w:=BZ hu 9999 f x y w
omit hI hT hget in
theorem DU {P:Program} {t:TypeId} {a b:Array TypeId} {c:Bool} (hu:P.underlying t=some (.func a b c)) (w:World):(Op.equal t .nilFunc .nilFunc).run P w=.ok true w:=yL hu 9999 w
omit hI hT hget in
theorem CZ {P:Program} {t e:TypeId} (hu:P.underlying t=some (.slice e)) (d:Nat) (a:Addr) (n c:Nat) (w:World):(Op.equalIn (d+1) t (.slice (some a) n c) (.slice none 0 0)).run P w=.ok false w:=by
 simp[Op.equalIn,run_underlying hu]
omit hI hT hget in
theorem Dk {P:Program} {t e:TypeId} (hu:P.underlying t=some (.slice e)) (d:Nat) (w:World):(Op.equalIn (d+1) t (.slice none 0 0) (.slice none 0 0)).run P w=.ok true w:=by
 simp[Op.equalIn,run_underlying hu]
omit hI hT hget in
theorem wY {P:Program} {t e:TypeId} (hu:P.underlying t=some (.slice e)) (a:Addr) (n c:Nat) (w:World):(Op.equal t (.slice (some a) n c) (.slice none 0 0)).run P w=.ok false w:=CZ hu 9999 a n c w
omit hI hT hget in
theorem GK {P:Program} {t e:TypeId} (hu:P.underlying t=some (.slice e)) (w:World):(Op.equal t (.slice none 0 0) (.slice none 0 0)).run P w=.ok true w:=Dk hu 9999 w
omit hI hT hget in
theorem vw {v:Value} (h:Rep k s.B.length w (.imm .nil) v):v=.slice none 0 0:=by rw[aB]at h;unfold aF at h;exact h
omit hI hT hget in
theorem MN {P:Program} {u:TypeDesc} (hk:kindOf P u=some .fn):∃a b c,u=.func a b c:=by
 unfold kindOf at hk
 split at hk<;>first|exact⟨_,_,_,rfl⟩|(cases hk;done)|(rename_i n e';cases hq:P.info? e'<;>rw[hq]at hk<;>cases hk;done)|skip
 ·rename_i fields
  cases hq:fieldsOf P fields.toList with
  |none=>rw[hq]at hk;cases hk
  |some gs=>rw[hq]at hk;cases hk
omit hI hT hget in
def dW (P:Program) (T:TypeId→Option (List CK)):Prop:=∀t ks,T t=some ks→∀(w:World) (x y:Operand) (is js:List IV) (xs ys:List Value) (Q:Nat→Prop),aG is ks=true→aG js ks=true→aO Q w is xs→aO Q w js ys→
 (eqGuard .eql t x y (.agg xs.toArray) (.agg ys.toArray)).run P w=.ok () w∧(eqGuard .neq t x y (.agg xs.toArray) (.agg ys.toArray)).run P w=.ok () w∧(Op.equal t (.agg xs.toArray) (.agg ys.toArray)).run P w=.ok (eqC is js) w∧∀em:Bool,(Instr.checkKey em 10000 t (.agg xs.toArray)).run P w=.ok () w
theorem N7 {op:BinOp} {t ty:TypeId} {x y:Operand} (hX:dW P Γ.eqT) (ho:o.op=.binOp op t x y ty) (h:ak P Γ.eqT o id look get cr=some out):Does P Γ k w a s.B o out:=by
 unfold ak at h
 simp only[ho]at h
 split at h
 ·rename_i is js ks hx hy ht
  have e1:=hT x
  have e2:=hT y
  rw[hx]at e1
  rw[hy]at e2
  obtain⟨xs,v1,c1⟩:=bG.1 (aB.1 e1)
  obtain⟨ys,v2,c2⟩:=bG.1 (aB.1 e2)
  split at h
  ·rename_i hs
   obtain⟨g1,g2,g3⟩:=hX t ks ht w x y is js xs ys k.Q hs.1 hs.2 c1 c2
   split at h
   ·simp only[val,Option.some.injEq]at h
    subst h
    refine au hI (v:=.bool (eqC is js)) ?_ bR
    simp[execOp,ho,v1,v2,g1,binOp,g3]
   ·simp only[val,Option.some.injEq]at h
    subst h
    refine au hI (v:=.bool (!eqC is js)) ?_ bR
    simp[execOp,ho,v1,v2,g2,binOp,g3]
   ·cases h
  ·cases h
 ·rename_i _ ba bb hx hy
  have e1:=hT x
  have e2:=hT y
  rw[hx]at e1
  rw[hy]at e2
  have v1:=ny e1
  have v2:=ny e2
  split at h
  ·rename_i ag sz zs hd
   obtain⟨_,_,u,_,hu,_,_,hk,_⟩:=aD hd
   have hub:u=.bool:=by
    unfold kindOf at hk
    split at hk<;>first|(simp_all;done)|(rename_i n e';cases hq:P.info? e'<;>rw[hq]at hk<;>cases hk)
   subst hub
   have hn:(eqGuard op t x y (.bool ba) (.bool bb)).run P w=.ok () w:=by simp[eqGuard]
   split at h
   ·simp only[val,Option.some.injEq]at h
    subst h
    refine au hI (v:=.bool (ba == bb)) ?_ bR
    simp[execOp,ho,v1,v2,hn,run_eql_bool w t ba bb hu]
   ·simp only[val,Option.some.injEq]at h
    subst h
    refine au hI (v:=.bool (!(ba == bb))) ?_ bR
    simp[execOp,ho,v1,v2,hn,binOp,run_equal_bool w t ba bb hu]
   ·cases h
  ·cases h
 ·rename_i _ r g off hx hy
  have e1:=hT x
  have e2:=hT y
  rw[hx]at e1
  rw[hy]at e2
  have v2:=I4 e2
  split at h
  ·rename_i ag sz zs g' cs hd hb
   obtain⟨_,_,u,_,hu,_,_,hk,_⟩:=aD hd
   obtain rfl:=IQ hk
   have hp:P.underlying t=some (.pointer (P.pointee t)):=by simp[Program.pointee,hu]
   split at h
   ·rename_i hgg
    subst hgg
    obtain⟨b,c,ty,v1,_⟩:=j3 hI e1 (hget _ _ hb)
    have hn:(eqGuard op t x y (.pointer (some ⟨b,off,none⟩)) (.pointer none)).run P w=.ok () w:=by simp[eqGuard]
    have he:=run_equal_pointer_nil (P:=P) w t (some ⟨b,off,none⟩) hp
    split at h
    ·simp only[val,Option.some.injEq]at h
     subst h
     refine au hI (v:=.bool false) ?_ bR
     simp[execOp,ho,v1,v2,hn,binOp,he]
    ·simp only[val,Option.some.injEq]at h
     subst h
     refine au hI (v:=.bool true) ?_ bR
     simp[execOp,ho,v1,v2,hn,binOp,he]
    ·cases h
   ·cases h
  ·cases h
 ·rename_i _ hx hy
  have e1:=hT x
  have e2:=hT y
  rw[hx]at e1
  rw[hy]at e2
  have v1:=I4 e1
  have v2:=I4 e2
  split at h
  ·rename_i ag sz zs hd
   obtain⟨_,_,u,_,hu,_,_,hk,_⟩:=aD hd
   obtain rfl:=IQ hk
   have hn:(eqGuard op t x y (.pointer none) (.pointer none)).run P w=.ok () w:=by simp[eqGuard]
   have hp:P.underlying t=some (.pointer (P.pointee t)):=by simp[Program.pointee,hu]
   have he:=run_equal_pointer_nil (P:=P) w t none hp
   split at h
   ·simp only[val,Option.some.injEq]at h
    subst h
    refine au hI (v:=.bool true) ?_ bR
    simp[execOp,ho,v1,v2,hn,binOp,he]
   ·simp only[val,Option.some.injEq]at h
    subst h
    refine au hI (v:=.bool false) ?_ bR
    simp[execOp,ho,v1,v2,hn,binOp,he]
   ·cases h
  ·cases h
 ·rename_i _ f cs hx hy
  have e1:=hT x
  have e2:=hT y
  rw[hx]at e1
  rw[hy]at e2
  obtain⟨vs,v1⟩:=Pm e1
  have v2:=CO e2
  split at h
  ·rename_i ag sz zs hd
   obtain⟨_,_,u,_,hu,_,_,hk,_⟩:=aD hd
   obtain⟨ps,rs,va,rfl⟩:=MN hk
   have hn:(eqGuard op t x y (.func (.func f) #[] vs.toArray) .nilFunc).run P w=.ok () w:=by simp[eqGuard]
   have he:(Op.equal t (.func (.func f) #[] vs.toArray) .nilFunc).run P w=.ok false w:=vN hu _ _ _ w
   split at h
   ·simp only[val,Option.some.injEq]at h
    subst h
    refine au hI (v:=.bool false) ?_ bR
    simp[execOp,ho,v1,v2,hn,binOp,he]
   ·simp only[val,Option.some.injEq]at h
    subst h
    refine au hI (v:=.bool true) ?_ bR
    simp[execOp,ho,v1,v2,hn,binOp,he]
   ·cases h
  ·cases h
 ·rename_i _ f hx hy
  have e1:=hT x
  have e2:=hT y
  rw[hx]at e1
  rw[hy]at e2
  have v1:=Gs e1
  have v2:=CO e2
  split at h
  ·rename_i ag sz zs hd
   obtain⟨_,_,u,_,hu,_,_,hk,_⟩:=aD hd
   obtain⟨ps,rs,va,rfl⟩:=MN hk
   have hn:(eqGuard op t x y (.func (.func f) #[] #[]) .nilFunc).run P w=.ok () w:=by simp[eqGuard]
   have he:(Op.equal t (.func (.func f) #[] #[]) .nilFunc).run P w=.ok false w:=vN hu _ _ _ w
   split at h
   ·simp only[val,Option.some.injEq]at h
    subst h
    refine au hI (v:=.bool false) ?_ bR
    simp[execOp,ho,v1,v2,hn,binOp,he]
   ·simp only[val,Option.some.injEq]at h
    subst h
    refine au hI (v:=.bool true) ?_ bR
    simp[execOp,ho,v1,v2,hn,binOp,he]
   ·cases h
  ·cases h
 ·rename_i _  hx hy
  have e1:=hT x
  have e2:=hT y
  rw[hx]at e1
  rw[hy]at e2
  have v1:=CO e1
  have v2:=CO e2
  split at h
  ·rename_i ag sz zs hd
   obtain⟨_,_,u,_,hu,_,_,hk,_⟩:=aD hd
   obtain⟨ps,rs,va,rfl⟩:=MN hk
   have hn:(eqGuard op t x y .nilFunc .nilFunc).run P w=.ok () w:=by simp[eqGuard]
   have he:(Op.equal t .nilFunc .nilFunc).run P w=.ok true w:=DU hu w
   split at h
   ·simp only[val,Option.some.injEq]at h
    subst h
    refine au hI (v:=.bool true) ?_ bR
    simp[execOp,ho,v1,v2,hn,binOp,he]
   ·simp only[val,Option.some.injEq]at h
    subst h
    refine au hI (v:=.bool false) ?_ bR
    simp[execOp,ho,v1,v2,hn,binOp,he]
   ·cases h
  ·cases h
 ·rename_i _ hx hy
  have e1:=hT x
  have e2:=hT y
  rw[hx]at e1
  rw[hy]at e2
  have v1:=vw e1
  have v2:=vw e2
  split at h
  ·rename_i ag sz zs el esz eb hd
   obtain⟨_,_,u,_,hu,_,_,hk,_⟩:=aD hd
   obtain⟨_,rfl,_⟩:=bH hk
   have hn:(eqGuard op t x y (.slice none 0 0) (.slice none 0 0)).run P w=.ok () w:=by simp[eqGuard]
   have he:=GK (P:=P) hu w
   split at h
   ·simp only[val,Option.some.injEq]at h
    subst h
    refine au hI (v:=.bool true) ?_ bR
    simp[execOp,ho,v1,v2,hn,binOp,he]
   ·simp only[val,Option.some.injEq]at h
    subst h
    refine au hI (v:=.bool false) ?_ bR
    simp[execOp,ho,v1,v2,hn,binOp,he]
   ·cases h
  ·cases h
 ·rename_i _ sz0 i0 is0 hx hy
  have e1:=hT x
  have e2:=hT y
  rw[hx]at e1
  rw[hy]at e2
  have v2:=vw e2
  rw[aB]at e1
  unfold aF at e1
  obtain⟨ad,c0,v1,_,_,hne⟩:=e1
  obtain⟨b0,o0,hb0,_⟩:=hne (by simp)
  subst hb0
  obtain⟨n0,v1⟩:∃n0,a.eval x=.slice (some ⟨b0,o0,none⟩) n0 c0:=⟨_,v1⟩
  split at h
  ·rename_i ag sz zs el esz eb hd
   obtain⟨_,_,u,_,hu,_,_,hk,_⟩:=aD hd
   obtain⟨_,rfl,_⟩:=bH hk
   have hn:(eqGuard op t x y (.slice (some ⟨b0,o0,none⟩) n0 c0) (.slice none 0 0)).run P w=.ok () w:=by simp[eqGuard]
   have he:=wY (P:=P) hu ⟨b0,o0,none⟩ n0 c0 w
   split at h
   ·simp only[val,Option.some.injEq]at h
    subst h
    refine au hI (v:=.bool false) ?_ bR
    simp[execOp,ho,v1,v2,hn,binOp,he]
   ·simp only[val,Option.some.injEq]at h
    subst h
    refine au hI (v:=.bool true) ?_ bR
    simp[execOp,ho,v1,v2,hn,binOp,he]
   ·cases h
  ·cases h
 ·rename_i _ r g hx hy
  have e1:=hT x
  have e2:=hT y
  rw[hx]at e1
  rw[hy]at e2
  have v2:=vw e2
  split at h
  ·rename_i ag sz zs el esz eb e' sz' g' p0 ps0 hd hb
   obtain⟨_,_,u,_,hu,_,_,hk,_⟩:=aD hd
   obtain⟨_,rfl,_⟩:=bH hk
   split at h
   ·rename_i hgg
    subst hgg
    obtain⟨xs,hvr,hown,_,_⟩:=dD hI e1 (hget _ _ hb)
    obtain⟨b0,n0,c0,v1⟩:∃b0 n0 c0,a.eval x=.slice (some ⟨b0,0,none⟩) n0 c0:=by
     rcases hown.2 with ⟨_,h0⟩|⟨b0,c0,_,e0,_⟩
     ·simp at h0
     ·exact⟨b0,_,c0,hvr.trans e0⟩
    have hn:(eqGuard op t x y (.slice (some ⟨b0,0,none⟩) n0 c0) (.slice none 0 0)).run P w=.ok () w:=by simp[eqGuard]
    have he:=wY (P:=P) hu ⟨b0,0,none⟩ n0 c0 w
    split at h
    ·simp only[val,Option.some.injEq]at h
     subst h
     refine au hI (v:=.bool false) ?_ bR
     simp[execOp,ho,v1,v2,hn,binOp,he]
    ·simp only[val,Option.some.injEq]at h
     subst h
     refine au hI (v:=.bool true) ?_ bR
     simp[execOp,ho,v1,v2,hn,binOp,he]
    ·cases h
   ·cases h
  ·cases h
 ·cases hb:IB op (look x) (look y) with
  |none=>rw[hb]at h;cases h
  |some i=>
   rw[hb]at h
   simp only[Option.bind_some,val,Option.some.injEq]at h
   subst h
   obtain⟨z,hz,hr⟩:=NR (P:=P) (t:=t) (x:=x) (y:=y) (hT x) (hT y) hb
   refine au hI (v:=z) ?_ (aB.2 hr)
   unfold execOp
   simp only[ho,Sem.run_bind]at hz ⊢
   rw[hz]
   rfl
omit hget in
theorem Pp {op:UnOp} {t:TypeId} {x:Operand} (ho:o.op=.unOp op t x) (h:ak P Γ.eqT o id look get cr=some out):Does P Γ k w a s.B o out:=by
 unfold ak at h
 simp only[ho]at h
 have e:=hT x
 split at h
 ·rename_i b hx
  simp only[val,Option.some.injEq]at h
  subst h
  rw[hx]at e
  have ev:=ny e
  refine au hI (v:=.bool (!b)) ?_ bR
  simp[execOp,ho,ev,Op.unary]
 ·rename_i kk b hx
  simp only[val,Option.some.injEq]at h
  subst h
  rw[hx]at e
  have ev:=bS e
  refine au hI (v:=.int kk (kk.wrap (0 - b))) ?_ rP
  simp[execOp,ho,ev,Op.unary,Op.intArith]
 ·cases h
theorem wB {t:TypeId} {x:Operand} {f:Nat} (ho:o.op=.fieldAddr t x f) (h:ak P Γ.eqT o id look get cr=some out):Does P Γ k w a s.B o out:=by
 unfold ak at h
 simp only[ho]at h
 have e:=hT x
 have fld:∀{ag sz zs fs fo fz fa},aJ P t=some ⟨ag,sz,zs,.struct fs⟩→fs[f]?=some (fo,fz,fa)→∃(fields:Array Field) (fd:Field) (i:TypeInfo),P.underlying t=some (.struct fields)∧fields[f]?=some fd∧fd.offset=fo∧P.info? fd.type=some i∧i.size=fz:=by
  intro ag sz zs fs fo fz fa hd hf
  obtain⟨i,z,u,_,h2,_,_,h5,_⟩:=aD hd
  exact Nb h2 h5 hf
 split at h
 ·rename_i ag sz zs fs r g off hd hx
  split at h
  ·rename_i fo fz fa hf
   split at h
   ·rename_i g' cs bt hg
    split at h
    ·rename_i hz
     obtain⟨hz,rfl⟩:=hz
     simp only[val,Option.some.injEq]at h
     subst h
     rw[hx]at e
     obtain⟨fields,fd,i,h1,h2,h3,h4,h5⟩:=fld hd hf
     obtain⟨b,c,ty,ev,hρ,hG,_⟩:=j3 hI e (hget _ _ hg)
     refine au hI (v:=.pointer (some ⟨b,off+fo,none⟩)) ?_ ?_
     ·have hadd:(⟨b,off,none⟩:Addr).add fd.offset=⟨b,off+fo,none⟩:=by rw[h3];unfold Addr.add;split<;>simp_all
      simp[execOp,ho,ev,Instr.fieldAt,run_underlying h1,h2,Instr.sureAddr,fieldPlace,sizeOf,typeInfo,h4,h5,hz,hadd]
     ·unfold Rep at e ⊢
      exact⟨rfl,e.2.1,e.2.2.1,fun _=>⟨b,by rw[hρ];rfl,rfl⟩⟩
    ·cases h
   ·cases h
  ·cases h
 ·rename_i ag sz zs fs r g esz i off hd hx
  split at h
  ·rename_i fo fz fa hf
   split at h
   ·rename_i el sz' g' es hg
    split at h
    ·rename_i hz
     obtain⟨hz,rfl⟩:=hz
     simp only[val,Option.some.injEq]at h
     subst h
     rw[hx]at e
     obtain⟨fields,fd,inf,h1,h2,h3,h4,h5⟩:=fld hd hf
     obtain⟨b,hb1,ev⟩:=jo hI e (hget _ _ hg)
     refine au hI (v:=.pointer (some ⟨b,i*esz+(off+fo),none⟩)) ?_ ?_
     ·have hadd:(⟨b,i*esz+off,none⟩:Addr).add fd.offset=⟨b,i*esz+(off+fo),none⟩:=by
       rw[h3]
       unfold Addr.add
       split
       ·rename_i h0;subst h0;rfl
       ·rw[Nat.add_assoc]
      simp[execOp,ho,ev,Instr.fieldAt,run_underlying h1,h2,Instr.sureAddr,fieldPlace,sizeOf,typeInfo,h4,h5,hz,hadd]
     ·unfold Rep at e ⊢
      exact⟨rfl,e.2.1,e.2.2.1,fun _=>⟨b,hb1,rfl⟩⟩
    ·cases h
   ·cases h
  ·cases h
 ·rename_i ag sz zs fs cs hd hx
  split at h
  ·rename_i fo fz fa hf
   split at h
   ·cases h
   ·rename_i hz
    simp only[val,Option.some.injEq]at h
    subst h
    rw[hx]at e
    obtain⟨fields,fd,i,h1,h2,h3,h4,h5⟩:=fld hd hf
    unfold Rep at e
    obtain⟨b,off,vs,ev,hq,hC,hcell⟩:=e
    refine au hI (v:=.pointer (some ⟨b,off+fo,none⟩)) ?_ ?_
    ·have hadd:(⟨b,off,none⟩:Addr).add fd.offset=⟨b,off+fo,none⟩:=by rw[h3];unfold Addr.add;split<;>simp_all
     simp[execOp,ho,ev,Instr.fieldAt,run_underlying h1,h2,Instr.sureAddr,fieldPlace,sizeOf,typeInfo,h4,h5,hz,hadd]
    ·unfold Rep
     exact⟨b,off+fo,vs.drop fo,rfl,hq,oO hC fo,fun j u hj=>by rw[Nat.add_assoc];rw[List.getElem?_drop]at hj;exact hcell _ u hj⟩
  ·cases h
 ·cases h
omit hI hT hget in
theorem MO {t:TypeId} {i:TypeInfo} {u:TypeDesc} (hi:P.info? t=some i) (hu:P.underlying t=some u) {cs:List IV} {vs:List Value} {off:Nat} {p:IV} (hC:aO k.Q w cs vs) (hp:qR cs off i.size (rJ u)=some p) :
  ∃v,(part t vs.toArray off).run P w=.ok v w∧aF k.Q w p v:=by
 unfold qR at hp
 unfold part
 rw[Sem.run_bind,oK hu,Result.andThen_ok]
 cases ha:rJ u with
 |true=>
  rw[ha]at hp
  simp only[if_true]at hp ⊢
  split at hp
  ·rename_i hle
   simp only[Option.some.injEq]at hp
   subst hp
   refine⟨.agg ((vs.drop off).take i.size).toArray,?_,bG.2 ⟨_,rfl,sJ (oO hC off) _⟩⟩
   rw[Sem.run_bind,run_sizeOf hi,Result.andThen_ok]
   simp only[Sem.run_pure]
   congr 2
   apply Array.ext'
   simp[List.extract_eq_take_drop]
  ·cases hp
 |false=>
  rw[ha]at hp
  simp only[Bool.false_eq_true,if_false]at hp ⊢
  obtain⟨v,hv,_,hrep⟩:=Bf hC off p hp
  refine⟨v,?_,hrep⟩
  simp[hv]
omit hget in
theorem GZ {t:TypeId} {x:Operand} {f:Nat} (ho:o.op=.field t x f) (h:ak P Γ.eqT o id look get cr=some out):Does P Γ k w a s.B o out:=by
 unfold ak at h
 simp only[ho]at h
 have e:=hT x
 split at h
 ·rename_i ag sz zs fs cs hd hx
  split at h
  ·rename_i fo fz fa hf
   cases hp:qR cs fo fz fa with
   |none=>rw[hp]at h;cases h
   |some p=>
    rw[hp]at h
    simp only[Option.bind_some,val,Option.some.injEq]at h
    subst h
    rw[hx]at e
    obtain⟨i,z,u,_,h2,_,_,h5,_⟩:=aD hd
    obtain⟨fields,fd,i',u',g1,g2,g3,g4,g5,g6,g7⟩:=zN h2 h5 hf
    obtain⟨vs,ev,hC⟩:=bG.1 (aB.1 e)
    subst g5
    subst g7
    obtain⟨v,hv,hr⟩:=MO (P:=P) (w:=w) g4 g6 hC hp
    refine au hI (v:=v) ?_ (aB.2 hr)
    simp[execOp,ho,ev,Instr.field,run_underlying g1,g2,asAgg,g3,hv]
  ·cases h
 ·rename_i ag sz zs fs ps hd hx
  split at h
  ·rename_i fo fz hf
   cases hp:ps[fo]? with
   |none=>rw[hp]at h;cases h
   |some p=>
    rw[hp]at h
    simp only[Option.bind_some,val,Option.some.injEq]at h
    subst h
    rw[hx]at e
    obtain⟨i,z,u,_,h2,_,_,h5,_⟩:=aD hd
    obtain⟨fields,fd,i',u',g1,g2,g3,g4,g5,g6,g7⟩:=zN h2 h5 hf
    obtain⟨vs,ev,hC⟩:=dx.1 e
    obtain⟨v,hv,_,hr⟩:=Cg hC _ p hp
    rw[←g3]at hv
    have hpart:(part fd.type vs.toArray fd.offset).run P w=.ok v w:=by
     unfold part
     rw[Sem.run_bind,oK g6,Result.andThen_ok,g7]
     simp[hv]
    refine au hI (v:=v) ?_ hr
    rw[g3]at hpart
    simp[execOp,ho,ev,Instr.field,run_underlying g1,g2,asAgg,g3,hpart]
  ·cases h
 ·cases h
omit hget in
theorem Cb {x:Operand} {j:Nat} (ho:o.op=.extract x j) (h:ak P Γ.eqT o id look get cr=some out):Does P Γ k w a s.B o out:=by
 unfold ak at h
 simp only[ho]at h
 have e:=hT x
 split at h
 ·rename_i cs hx
  cases hc:cs[j]? with
  |none=>rw[hc]at h;cases h
  |some p=>
   rw[hc]at h
   simp only[Option.bind_some,val,Option.some.injEq]at h
   subst h
   rw[hx]at e
   unfold Rep at e
   obtain⟨vs,ev,hl⟩:=e
   obtain⟨v,hv,hr⟩:=vg hl j p hc
   refine au hI (v:=v) ?_ hr
   simp[execOp,ho,ev,Instr.extract,hv]
 ·cases h
omit hI hT hget in
theorem Mw {Q:Nat→Prop} {sz b:Nat}:∀{es:List IV} {off j:Nat} {e:IV},dA Q w sz b off es→es[j]?=some e→∃v,aF Q w e v∧v.cells.size=sz∧∀q u,v.cells[q]?=some u→w.cell? ⟨b,off+j*sz+q,none⟩=some u
 |[],_,_,_,_,h=>by simp at h
 |x::es,off,0,e,hr,h=>by
  unfold dA at hr
  simp only[List.getElem?_cons_zero,Option.some.injEq]at h
  subst h
  simpa using hr.1
 |x::es,off,j+1,e,hr,h=>by
  unfold dA at hr
  obtain⟨v,h1,h2,h3⟩:=Mw hr.2 (by simpa using h)
  refine⟨v,h1,h2,fun q u hq=>?_⟩
  have:=h3 q u hq
  rw[show off+(j+1)*sz+q=off+sz+j*sz+q by rw[Nat.succ_mul];omega]
  exact this
omit hI hT hget in
theorem Hy {Q:Nat→Prop} {e:IV} {v:Value} (h:aF Q w e v):aO Q w (jD e) v.cells.toList:=by
 have h1:Rep ⟨fun _=>undef,fun _=>0,Q,fun _=>none⟩ 0 w (.imm e) v:=aB.2 h
 have h2:=eO h1 (cs:=(jD e).map .imm) rfl
 have key:∀(cs:List IV) (vs:List Value),aT ⟨fun _=>undef,fun _=>0,Q,fun _=>none⟩ 0 w (cs.map .imm) vs→aO Q w cs vs:=by
  intro cs
  induction cs with
  |nil=>intro vs h;unfold aO;simpa[aT]using h
  |cons c cs ih=>
   intro vs h
   simp only[List.map_cons]at h
   unfold aT at h
   obtain⟨v,r,e,h0,h1,h2⟩:=h
   unfold aO
   exact⟨v,r,e,h0,aB.1 h1,ih r h2⟩
 exact key _ _ h2
theorem wh {t:TypeId} {x ix:Operand} (ho:o.op=.indexAddr t x ix) (h:ak P Γ.eqT o id look get cr=some out):Does P Γ k w a s.B o out:=by
 unfold ak at h
 simp only[ho]at h
 have e:=hT x
 have ei:=hT ix
 split at h
 ·rename_i ag sz0 zs el sz bb sz' es kk i hd hx hix
  split at h
  ·rename_i hc
   obtain⟨rfl,hi0⟩:=hc
   cases hj:es[i.toNat]? with
   |none=>rw[hj]at h;cases h
   |some p=>
    rw[hj]at h
    simp only[Option.bind_some,val,Option.some.injEq]at h
    subst h
    rw[hx]at e
    rw[hix]at ei
    have evi:=bS ei
    have e:=aB.1 e
    unfold aF at e
    obtain⟨ad,c,ev,h1,h2,h3⟩:=e
    have hlt:i.toNat < es.length:=(List.getElem?_eq_some_iff.1 hj).1
    obtain⟨b,off,rfl,hq,hR⟩:=h3 (by omega)
    obtain⟨v,g1,g2,g3⟩:=Mw hR hj
    obtain⟨inf,z,u,q1,q2,_,_,q5,_⟩:=aD hd
    obtain⟨inf2,q6,q7,q8⟩:=bH q5
    refine au hI (v:=.pointer (some ⟨b,off+i.toNat*sz,none⟩)) ?_ ?_
    ·have hadd:(⟨b,off,none⟩:Addr).add (i.toNat*sz)=⟨b,off+i.toNat*sz,none⟩:=by unfold Addr.add;split<;>simp_all
     have hin:0≤i∧i < (es.length:Int):=by omega
     rw[q6]at q2
     simp[execOp,ho,ev,evi,Instr.indexAt,asIntOf,run_underlying q2,sizeOf,typeInfo,q7,q8,hin,hadd]
    ·unfold Rep
     exact⟨b,_,v.cells.toList,rfl,hq,Hy g1,fun q u hq=>g3 q u (by simpa using hq)⟩
  ·cases h
 ·rename_i ag sz0 zs el sz bb r g kk i hd hx hix
  split at h
  ·rename_i el' sz' g' es hg
   split at h
   ·rename_i hc
    obtain⟨rfl,rfl,hi0,hi1⟩:=hc
    simp only[val,Option.some.injEq]at h
    subst h
    rw[hx]at e
    rw[hix]at ei
    have evi:=bS ei
    obtain⟨_,ev,_⟩:=dD hI e (hget _ _ hg)
    obtain⟨b,cap,cur,xs,e1,_⟩:=mP hI (hget _ _ hg) (by omega)
    rw[e1]at ev
    obtain⟨inf,z,u,q1,q2,_,_,q5,_⟩:=aD hd
    obtain⟨inf2,q6,q7,q8⟩:=bH q5
    refine au hI (v:=.pointer (some ⟨b,i.toNat*sz+0,none⟩)) ?_ ?_
    ·have hadd:(⟨b,0,none⟩:Addr).add (i.toNat*sz)=⟨b,i.toNat*sz+0,none⟩:=by unfold Addr.add;split<;>simp_all
     have hin:0≤i∧i < (es.length:Int):=by omega
     rw[q6]at q2
     simp only[Nat.add_zero]at hadd
     simp[execOp,ho,ev,evi,Instr.indexAt,asIntOf,run_underlying q2,sizeOf,typeInfo,q7,q8,hin,hadd]
    ·unfold Rep at e ⊢
     exact⟨rfl,e.2.1,e.2.2.1,fun _=>⟨b,by rw[e1];rfl,rfl⟩⟩
   ·cases h
  ·cases h
 ·rename_i ag sz0 zs el sz bb r g sz' q m kk i hd hx hix
  split at h
  ·rename_i el' sz2 g' es hg
   split at h
   ·rename_i hc
    obtain⟨rfl,rfl,rfl,hi0,hi1⟩:=hc
    simp only[val,Option.some.injEq]at h
    subst h
    rw[hx]at e
    rw[hix]at ei
    have evi:=bS ei
    have hb:=hget _ _ hg
    obtain⟨a',c,ad,cap,ev,g1,g2,g3,hG,g5,g4⟩:=oV hI e hb
    obtain⟨b,hb1,ha'⟩:=g4 (by omega)
    subst ha'
    subst hb1
    obtain⟨inf,z,u,q1,q2,_,_,q5,_⟩:=aD hd
    obtain⟨inf2,q6,q7,q8⟩:=bH q5
    refine au hI (v:=.pointer (some ⟨b,(q+i.toNat)*sz,none⟩)) ?_ ?_
    ·have hadd:(⟨b,q*sz,none⟩:Addr).add (i.toNat*sz)=⟨b,(q+i.toNat)*sz,none⟩:=by
      rw[Nat.add_mul]
      unfold Addr.add
      split<;>simp_all
     have hin:0≤i∧i < (m:Int):=by omega
     rw[q6]at q2
     simp[execOp,ho,ev,evi,Instr.indexAt,asIntOf,run_underlying q2,sizeOf,typeInfo,q7,q8,hin,hadd]
    ·unfold Rep
     exact⟨rfl,(List.getElem?_eq_some_iff.1 hb).1,Nat.le_of_eq hG.symm,fun _=>⟨b,by rw[g5];rfl,rfl⟩⟩
   ·cases h
  ·cases h
 ·rename_i ag sz0 zs n el sz r g sz' i0 off kk i hd hx hix
  split at h
  ·rename_i el' sz2 g' es hg
   split at h
   ·rename_i hc
    obtain⟨rfl,rfl,rfl,rfl,rfl,hn,hi0,hi1⟩:=hc
    simp only[val,Option.some.injEq]at h
    subst h
    rw[hx]at e
    rw[hix]at ei
    have evi:=bS ei
    obtain⟨b,hb1,ev⟩:=jo hI e (hget _ _ hg)
    obtain⟨inf,z,u,q1,q2,_,_,q5,_⟩:=aD hd
    obtain⟨inf2,q6,q7,q8⟩:=GH q5
    refine au hI (v:=.pointer (some ⟨b,i.toNat*sz+0,none⟩)) ?_ ?_
    ·have hadd:(⟨b,0*sz+0,none⟩:Addr).add (i.toNat*sz)=⟨b,i.toNat*sz+0,none⟩:=by unfold Addr.add;split<;>simp_all
     have hin:0≤i∧i < (n:Int):=by omega
     rw[q6]at q2
     simp only[Nat.add_zero,Nat.zero_mul]at hadd ev ⊢
     simp[execOp,ho,ev,evi,Instr.indexAt,Instr.sureAddr,asIntOf,run_underlying q2,sizeOf,typeInfo,q7,q8,hin,hadd]
    ·unfold Rep at e ⊢
     exact⟨rfl,e.2.1,e.2.2.1,fun _=>⟨b,hb1,rfl⟩⟩
   ·cases h
  ·cases h
 ·rename_i ag sz0 zs n el sz cs kk i hd hx hix
  split at h
  ·rename_i hc
   obtain⟨hi0,hi1⟩:=hc
   simp only[val,Option.some.injEq]at h
   subst h
   rw[hx]at e
   rw[hix]at ei
   have evi:=bS ei
   unfold Rep at e
   obtain⟨b,off,vs,ev,hq,hC,hcell⟩:=e
   obtain⟨inf,z,u,q1,q2,_,_,q5,_⟩:=aD hd
   obtain⟨inf2,q6,q7,q8⟩:=GH q5
   refine au hI (v:=.pointer (some ⟨b,off+i.toNat*sz,none⟩)) ?_ ?_
   ·have hadd:(⟨b,off,none⟩:Addr).add (i.toNat*sz)=⟨b,off+i.toNat*sz,none⟩:=by unfold Addr.add;split<;>simp_all
    have hin:0≤i∧i < (n:Int):=by omega
    rw[q6]at q2
    simp[execOp,ho,ev,evi,Instr.indexAt,Instr.sureAddr,asIntOf,run_underlying q2,sizeOf,typeInfo,q7,q8,hin,hadd]
   ·unfold Rep
    exact⟨b,_,vs.drop (i.toNat*sz),rfl,hq,oO hC _,fun j u hj=>by rw[Nat.add_assoc];rw[List.getElem?_drop]at hj;exact hcell _ u hj⟩
  ·cases h
 ·cases h
omit hget in
theorem GU {t:TypeId} {x ix:Operand} (ho:o.op=.index t x ix) (h:ak P Γ.eqT o id look get cr=some out):Does P Γ k w a s.B o out:=by
 unfold ak at h
 simp only[ho]at h
 have e:=hT x
 have ei:=hT ix
 split at h
 ·rename_i ag sz0 zs str kk i hd hx hix
  split at h
  ·rename_i hc
   cases hj:str.data[i.toNat]? with
   |none=>rw[hj]at h;cases h
   |some p=>
    rw[hj]at h
    simp only[Option.bind_some,val,Option.some.injEq]at h
    subst h
    rw[hx]at e
    rw[hix]at ei
    have evi:=bS ei
    have ev:=lI e
    obtain⟨inf,z,u,q1,q2,_,_,q5,_⟩:=aD hd
    have q6:=kM q5
    subst q6
    refine au hI (v:=.int .u8 p.toNat) ?_ rP
    have hlt:=(Array.getElem?_eq_some_iff.1 hj)
    obtain⟨hlt,hval⟩:=hlt
    have hs:str[i.toNat]?=some p:=by
     rw[getElem?_pos str i.toNat hlt]
     exact congrArg some hval
    simp[execOp,ho,ev,evi,Instr.index,asIntOf,run_underlying q2,hc,hs]
  ·cases h
 ·cases h
omit hget in
theorem Nh {args:Array Operand} {ts:Array TypeId} (ho:o.op=.call ⟨.builtin .max,args,ts⟩) (h:ak P Γ.eqT o id look get cr=some out):Does P Γ k w a s.B o out:=by
 unfold ak at h
 simp only[ho]at h
 split at h
 ·rename_i kk x kk' y hargs
  simp only[val,Option.some.injEq]at h
  subst h
  obtain⟨x1,x2,ha,hx1,hx2⟩:∃x1 x2,args=#[x1,x2]∧look x1=.imm (.int kk x)∧look x2=.imm (.int kk' y):=by
   cases hl:args.toList with
   |nil=>rw[hl]at hargs;simp at hargs
   |cons x1 l=>
    cases l with
    |nil=>rw[hl]at hargs;simp at hargs
    |cons x2 l=>
     cases l with
     |nil=>
      rw[hl]at hargs
      simp only[List.map_cons,List.map_nil,List.cons.injEq,and_true]at hargs
      exact⟨x1,x2,by apply Array.ext';simpa using hl,hargs.1,hargs.2⟩
     |cons x3 l=>rw[hl]at hargs;simp at hargs
  have f1:=hT x1
  have f2:=hT x2
  rw[hx1]at f1
  rw[hx2]at f2
  have v1:=bS f1
  have v2:=bS f2
  refine au hI (v:=.int kk (if y > x then y else x)) ?_ rP
  simp[execOp,ho,resolve,invoke,builtin,ha,v1,v2,Builtin.max_,Builtin.max2]
 ·cases h
omit hget in
theorem NV {args:Array Operand} {ts:Array TypeId} (ho:o.op=.call ⟨.builtin .min,args,ts⟩) (h:ak P Γ.eqT o id look get cr=some out):Does P Γ k w a s.B o out:=by
 unfold ak at h
 simp only[ho]at h
 split at h
 ·rename_i kk x kk' y hargs
  simp only[val,Option.some.injEq]at h
  subst h
  obtain⟨x1,x2,ha,hx1,hx2⟩:∃x1 x2,args=#[x1,x2]∧look x1=.imm (.int kk x)∧look x2=.imm (.int kk' y):=by
   cases hl:args.toList with
   |nil=>rw[hl]at hargs;simp at hargs
   |cons x1 l=>
    cases l with
    |nil=>rw[hl]at hargs;simp at hargs
    |cons x2 l=>
     cases l with
     |nil=>
      rw[hl]at hargs
      simp only[List.map_cons,List.map_nil,List.cons.injEq,and_true]at hargs
      exact⟨x1,x2,by apply Array.ext';simpa using hl,hargs.1,hargs.2⟩
     |cons x3 l=>rw[hl]at hargs;simp at hargs
  have f1:=hT x1
  have f2:=hT x2
  rw[hx1]at f1
  rw[hx2]at f2
  have v1:=bS f1
  have v2:=bS f2
  refine au hI (v:=.int kk (if y < x then y else x)) ?_ rP
  simp[execOp,ho,resolve,invoke,builtin,ha,v1,v2,Builtin.min_,Builtin.min2]
 ·cases h
end
end Go.Pv
