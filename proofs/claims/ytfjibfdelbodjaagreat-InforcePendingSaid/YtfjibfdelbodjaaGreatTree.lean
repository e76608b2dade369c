/-
  Trees of units, and how they lie in memory.
-/
import Derived.Test.YtfjibfdelbodjaaGreatP7
import Derived.Test.YtfjibfdelbodjaaGreatProg
import Derived.Test.YtfjibfdelbodjaaGreatLab
import Derived.Test.YtfjibfdelbodjaaGreatLcs
namespace Go.Proofs.YtfjibfdelbodjaaGreat
open Go.RowKit (wrap32 wrap64 intOf Hid Below)
open Lcs
structure nJ where
 x:Int
 y:Int
 z:Int
 deriving DecidableEq
def inI (z:Int):Prop:=-9223372036854775808≤z∧z≤9223372036854775807
def nJ.ok (t:nJ):Prop:=inI t.x∧inI t.y∧inI t.z
structure Wd where
 text:Str
 mark:nJ
 deriving DecidableEq
inductive Ut where
 |mk (id:nJ) (kind:Int) (label:Str) (head words:List Wd) (kids:List Ut)
def wv:List Wd→List Value
 |[]=>[]
 |a::r=>.string a.text::.int .i64 a.mark.x::.int .i64 a.mark.y::.int .i64 a.mark.z::wv r
def Wds (w:World) (A:Option Addr) (n c:Nat) (L:List Wd):Prop:=
 L.length=n∧n≤c∧c≤9223372036854775807∧(0 < n→∃b off,A=some ⟨b,off,none⟩∧b < w.heap.size∧∀j u,(wv L)[j]?=some u→w.cell? ⟨b,off+j,none⟩=some u)
theorem Wds.below {w w':World} {A:Option Addr} {n c:Nat} {L:List Wd} (h:Wds w A n c L) (hb:Below w.heap.size w w'):Wds w' A n c L:=by
 obtain⟨h1,h2,h3,h4⟩:=h
 refine⟨h1,h2,h3,fun hn=>?_⟩
 obtain⟨b,off,e,hlt,hc⟩:=h4 hn
 exact⟨b,off,e,Nat.lt_of_lt_of_le hlt hb.size,fun j u hj=>(hb.cell (p:=⟨b,off+j,none⟩) hlt).trans (hc j u hj)⟩
mutual
def UtC (w:World):Ut→List Value→Prop
 |.mk id kind label head words kids,vs=>∃(Ah Aw Ak:Option Addr) (nh ch nw cw nk ck b off:Nat),vs=[.int .i64 id.x,.int .i64 id.y,.int .i64 id.z,.int .i64 kind,.string label,.slice Ah nh ch,.slice Aw nw cw,.slice Ak nk ck]∧(id.ok∧inI kind)∧
   Wds w Ah nh ch head∧Wds w Aw nw cw words∧nk=kids.length∧nk≤ck∧ck≤9223372036854775807∧(0 < nk→Ak=some ⟨b,off,none⟩∧b < w.heap.size)∧UtR w b off kids
def UtR (w:World) (b off:Nat):List Ut→Prop
 |[]=>True
 |u::r=>b < w.heap.size∧(∃vs,UtC w u vs∧∀j v,vs[j]?=some v→w.cell? ⟨b,off+j,none⟩=some v)∧UtR w b (off+8) r
end
mutual
theorem UtC.below {w w':World} (hb:Below w.heap.size w w'):∀(u:Ut) (vs:List Value),UtC w u vs→UtC w' u vs
 |.mk id kind label head words kids,vs,h=>by
  unfold UtC at h ⊢
  obtain⟨Ah,Aw,Ak,nh,ch,nw,cw,nk,ck,b,off,e,ho,h1,h2,h3,h4,h5,h6,h7⟩:=h
  exact⟨Ah,Aw,Ak,nh,ch,nw,cw,nk,ck,b,off,e,ho,h1.below hb,h2.below hb,h3,h4,h5,fun hn=>⟨(h6 hn).1,Nat.lt_of_lt_of_le (h6 hn).2 hb.size⟩,UtR.below hb b off kids h7⟩
theorem UtR.below {w w':World} (hb:Below w.heap.size w w'):∀(b off:Nat) (l:List Ut),UtR w b off l→UtR w' b off l
 |_,_,[],_=>by unfold UtR;trivial
 |b,off,u::r,h=>by
  unfold UtR at h ⊢
  obtain⟨hlt,⟨vs,h1,h2⟩,h3⟩:=h
  exact⟨Nat.lt_of_lt_of_le hlt hb.size,⟨vs,UtC.below hb u vs h1,fun j v hj=>(hb.cell (p:=⟨b,off+j,none⟩) hlt).trans (h2 j v hj)⟩,UtR.below hb b (off+8) r h3⟩
end
theorem UtR.at_ {w:World} {b:Nat}:∀{off k:Nat} {l:List Ut} {u:Ut},UtR w b off l→l[k]?=some u→b < w.heap.size∧∃vs,UtC w u vs∧∀j v,vs[j]?=some v→w.cell? ⟨b,off+k*8+j,none⟩=some v
 |_,_,[],_,_,h=>by simp at h
 |off,0,a::r,u,h,e=>by
  unfold UtR at h
  simp only[List.getElem?_cons_zero,Option.some.injEq]at e
  subst e
  obtain⟨h1,h2,_⟩:=h
  rw[Nat.zero_mul,Nat.add_zero]
  exact⟨h1,h2⟩
 |off,k+1,a::r,u,h,e=>by
  unfold UtR at h
  simp only[List.getElem?_cons_succ]at e
  obtain⟨h1,vs,h2,h3⟩:=UtR.at_ h.2.2 e
  exact⟨h1,vs,h2,fun j v hj=>by rw[show off+(k+1)*8+j=off+8+k*8+j by omega];exact h3 j v hj⟩
mutual
def Ut.count:Ut→Nat
 |.mk _ _ _ _ _ kids=>1+Ut.counts kids
def Ut.counts:List Ut→Nat
 |[]=>0
 |u::r=>u.count+Ut.counts r
end
mutual
def Ut.depth:Ut→Nat
 |.mk _ _ _ _ _ kids=>Ut.depths kids
def Ut.depths:List Ut→Nat
 |[]=>0
 |u::r=>max (1+u.depth) (Ut.depths r)
end
mutual
def Ut.all:Ut→List Ut
 |.mk id kind label head words kids=>.mk id kind label head words kids::Ut.qB kids
def Ut.qB:List Ut→List Ut
 |[]=>[]
 |u::r=>u.all++Ut.qB r
end
end Go.Proofs.YtfjibfdelbodjaaGreat
