/-
  The program's sets of days, as calls of plain values. Days in force, as sets (of no program but for the names).
-/
import Derived.Test.YtfjibfdelbodjaaGreatNb
import Derived.Test.YtfjibfdelbodjaaGreatMd
import Derived.Test.YtfjibfdelbodjaaGreatWAc
namespace Go.Proofs.YtfjibfdelbodjaaGreat.Pe
open Go Go.Pv Go.RowKit
set_option linter.unusedSimpArgs false
open Spans
set_option maxRecDepth 10000
set_option maxHeartbeats 16000000
theorem uw {Q:Nat→Prop} {w:World} {b:Nat}:∀{L:List Sp} {off:Nat},dR Q w 2 b off (L.map spv)→∀k,k < L.length→w.cell? ⟨b,off+k*2,none⟩=some (.int .i64 (fr L k))∧w.cell? ⟨b,off+k*2+1,none⟩=some (.int .i64 (to L k))
 |[],_,_,k,hk=>by simp at hk
 |a::L,off,h,k,hk=>by
  simp only[List.map_cons]at h
  unfold dR at h
  obtain⟨⟨v,h1,h2,h3⟩,h4⟩:=h
  unfold spv at h1
  obtain⟨vs,e,hC⟩:=bJ.1 h1
  subst e
  simp only[aR,aF]at hC
  obtain⟨_,_,rfl,_,rfl,_,_,rfl,_,rfl,rfl⟩:=hC
  match k,hk with
  |0,_=>exact⟨h3 0 _ rfl,h3 1 _ rfl⟩
  |k+1,hk=>
   have:=uw h4 k (by simpa using hk)
   rw[show off+(k+1)*2=off+2+k*2 by omega]
   exact this
theorem uM {Q:Nat→Prop} {w:World} {b:Nat}:∀{L:List Sp} {off:Nat},(∀k,k < L.length→w.cell? ⟨b,off+k*2,none⟩=some (.int .i64 (fr L k))∧w.cell? ⟨b,off+k*2+1,none⟩=some (.int .i64 (to L k)))→dR Q w 2 b off (L.map spv)
 |[],_,_=>by simp[dR]
 |a::L,off,h=>by
  simp only[List.map_cons]
  unfold dR
  obtain⟨h1,h2⟩:=h 0 (by simp)
  refine⟨⟨.agg #[.int .i64 a.1,.int .i64 a.2],?_,rfl,fun j u hj=>?_⟩,uM fun k hk=>?_⟩
  ·unfold spv
   rw[bJ]
   refine⟨_,rfl,?_⟩
   simp only[aR,aF]
   exact⟨_,_,rfl,rfl,rfl,_,_,rfl,rfl,rfl,rfl⟩
  ·match j,hj with
   |0,hj=>rw[←hj];exact h1
   |1,hj=>rw[←hj];exact h2
   |j+2,hj=>simp[Value.cells]at hj
  ·have:=h (k+1) (by simpa using hk)
   rw[show off+(k+1)*2=off+2+k*2 by omega]at this
   exact this
theorem vU {Q:Nat→Prop} {w:World} (hQ:∀b,Q b→b < w.heap.size) {L:List Sp} {v:Value} (h:aF Q w (.sl 2 (L.map spv)) v):∃A n c,v=.slice A n c∧aX w.heap.size w A n L:=by
 unfold aF at h
 obtain⟨a,c,e,_,_,h3⟩:=h
 rw[List.length_map]at e h3
 refine⟨a,_,c,e,rfl,fun hp=>?_⟩
 obtain⟨b,off,ea,hq,hR⟩:=h3 hp
 exact⟨b,off,ea,hQ b hq,uw hR⟩
theorem wL {f:FuncId} {X:Env} {args:List IV} {Pd:Int→Bool} (he:∀xs w,(callFunc f xs).run Tryz.prog w=.ok (.enter f xs) w)
  (h:∀(Q:Nat→Prop) (w:World) (vs:List Value),(∀b,Q b→b < w.heap.size)→bA Q w args vs→Calls Tryz.prog f vs.toArray w fun e w'=>l8 w.heap.size Pd e w'∧Below w.heap.size w w'):PC Tryz.prog X f args [.sl 2 ((Rm.canon Pd).map spv)]:=by
 refine⟨he,fun Q w vs hQ _ hR hvs=>(h Q w vs hQ hvs).mono ?_⟩
 rintro e w' ⟨⟨A,n,c,R,rfl,hi,hs,⟨h1,h2,h3⟩,h4⟩,hb⟩
 have hsz:=hb.size
 refine⟨_,fun b=>Q b∨(w.heap.size≤b∧b < w'.heap.size),rfl,hb,fun b h=>Or.inl h,fun b h=>?_,?_⟩
 ·rcases h with h|h
  ·exact⟨Or.inl h,Nat.lt_of_lt_of_le (hQ b h) hsz⟩
  ·exact⟨Or.inr h.1,h.2⟩
 ·rw[←Rm.iG hi]
  show aF _ _ (.sl 2 (R.map spv)) (.slice A n c)
  obtain⟨k1,k2⟩:=hs
  unfold aF
  rw[List.length_map,k1]
  refine⟨A,c,rfl,h1,h2,fun hp=>?_⟩
  obtain⟨b,off,e,hb2,hcell⟩:=k2 hp
  exact⟨b,off,e,Or.inr ⟨h3 _ e,hb2⟩,uM fun k hk=>hcell k (by omega)⟩
theorem DL (L:List Sp) (t:Int) (hl:L.length≤2000000):PC Tryz.prog aM 171 [.sl 2 (L.map spv),.int .i64 t] [.sl 2 ((Rm.canon fun d=>aJ L d&&aJ [(0,t)] d).map spv)]:=
 wL (enters_of Tryz.func171 rfl rfl) fun Q w vs hQ hvs=>by
  unfold bA at hvs
  obtain⟨v,r,rfl,h1,h2⟩:=hvs
  unfold bA at h2
  obtain⟨v2,r2,rfl,h3,h4⟩:=h2
  unfold bA at h4
  subst h4
  unfold aF at h3
  subst h3
  obtain⟨A,n,c,rfl,hz⟩:=vU hQ h1
  exact Bz L n c A t w hz (by have:=hz.1;omega)
theorem Az (L:List Sp) (t:Int) (hl:L.length≤2000000):PC Tryz.prog aM 169 [.sl 2 (L.map spv),.int .i64 t] [.sl 2 ((Rm.canon fun d=>aJ L d||aJ [(t,1048577)] d).map spv)]:=
 wL (enters_of Tryz.func169 rfl rfl) fun Q w vs hQ hvs=>by
  unfold bA at hvs
  obtain⟨v,r,rfl,h1,h2⟩:=hvs
  unfold bA at h2
  obtain⟨v2,r2,rfl,h3,h4⟩:=h2
  unfold bA at h4
  subst h4
  unfold aF at h3
  subst h3
  obtain⟨A,n,c,rfl,hz⟩:=vU hQ h1
  exact vS L n c A t w hz (by have:=hz.1;omega)
end Go.Proofs.YtfjibfdelbodjaaGreat.Pe
namespace Go.Proofs.YtfjibfdelbodjaaGreat.Pe
open Go Go.Pv Go.RowKit
set_option linter.unusedSimpArgs false
open Spans Rm
set_option maxRecDepth 10000
def eB (t:Int):List Sp→List Sp
 |[]=>[]
 |s::r=>if s.1 < t then (s.1,min s.2 t)::eB t r else []
theorem tO (t:Int):∀L:List Sp,(eB t L).length≤L.length
 |[]=>by simp[eB]
 |s::r=>by
  unfold eB
  split
  ·simpa using tO t r
  ·simp
theorem Ja {t:Int}:∀{L:List Sp} {lo:Int},gU lo L→t≤lo→eB t L=[]
 |[],_,_,_=>rfl
 |s::r,lo,h,ht=>by
  unfold eB
  rw[if_neg (by have:=h.1;omega)]
theorem tN {t:Int}:∀{L:List Sp} {lo:Int},gU lo L→gU lo (eB t L)
 |[],_,_=>trivial
 |s::r,lo,h=>by
  obtain⟨h1,h2,h3,h4⟩:=h
  unfold eB
  split
  ·rename_i ht
   refine⟨h1,by simp only[];omega,by simp only[];omega,?_⟩
   by_cases hm:s.2≤t
   ·rw[show min s.2 t=s.2 by omega];exact tN h4
   ·rw[Ja h4 (by omega)];trivial
  ·trivial
theorem tq {t:Int}:∀{L:List Sp} {lo:Int},gU lo L→∀d,aJ (eB t L) d=(aJ L d&&decide (d < t))
 |[],_,_,d=>by simp[eB,aJ]
 |s::r,lo,h,d=>by
  obtain⟨h1,h2,h3,h4⟩:=h
  unfold eB
  split
  ·rename_i ht
   rw[aJ,aJ,tq h4 d,Bool.and_or_distrib_right]
   congr 1
   rw[Bool.eq_iff_iff]
   simp
   omega
  ·rename_i ht
   by_cases hd:d < t
   ·have:aJ (s::r) d=false:=kF (s::r) (s.1 - 1) d ⟨by omega,h2,h3,h4⟩ (by omega)
    rw[this];rfl
   ·rw[decide_eq_false hd,Bool.and_false];rfl
theorem wS {t:Int}:∀L:List Sp,∀x∈eB t L,x.1 < t
 |[],x,h=>by simp[eB]at h
 |s::r,x,h=>by
  unfold eB at h
  split at h
  ·rcases List.mem_cons.1 h with rfl|h
   ·assumption
   ·exact wS r x h
  ·cases h
def jW (P:Int→Bool) (n:Nat):Prop:=Is (canon P) P∧(canon P).length≤n
theorem jW.of {P:Int→Bool} {R:List Sp} {n:Nat} (h:Is R P) (hn:R.length≤n):jW P n:=by
 have e:=iG h
 exact⟨e ▸ h,e ▸ hn⟩
theorem jW.val {P:Int→Bool} {n:Nat} (h:jW P n) (d:Int) (h0:0≤d) (h1:d≤1048576):aJ (canon P) d=P d:=h.1.2 d h0 h1
theorem jW.trunc {P:Int→Bool} {n:Nat} (h:jW P n) (t:Int):jW (fun d=>P d&&aJ [(0,t)] d) n:=
 .of (R:=eB t (canon P)) ⟨tN h.1.1,fun d h0 h1=>by dsimp only;rw[tq h.1.1,h.val d h0 h1,AZ d t h0]⟩ (Nat.le_trans (tO _ _) h.2)
theorem jW.ext {P:Int→Bool} {n:Nat} (h:jW P n) (t:Int):jW (fun d=>P d||aJ [(t,1048577)] d) (n+1):=by
 by_cases ht:t≤1048576
 ·have ok:=BL (eB (max t 0) (canon P)) (max t 0,1048577) (tN h.1.1) (fun x hx=>by
   have:=wS (t:=max t 0) (canon P) x (List.mem_of_getLast? hx)
   simp only[];omega) (by simp only[];omega) (by simp only[];omega) (Int.le_refl _)
  refine .of (R:=apS (eB (max t 0) (canon P)) (max t 0,1048577)) ⟨ok.1,fun d h0 h1=>?_⟩ ?_
  ·dsimp only;rw[ok.2.1 d,tq h.1.1,h.val d h0 h1,oQ d t h1,oQ d (max t 0) h1]
   cases P d<;>simp<;>omega
  ·have:=pF (eB (max t 0) (canon P)) (max t 0,1048577)
   have:=tO (max t 0) (canon P)
   have:=h.2
   omega
 ·refine .of (R:=canon P) ⟨h.1.1,fun d h0 h1=>?_⟩ (by have:=h.2;omega)
  dsimp only;rw[h.val d h0 h1,oQ d t h1,decide_eq_true (show d < t by omega),Bool.not_true,Bool.or_false]
def stD (s:St) (l:List En):Option Int:=if s.k=1 then some s.d else if s.k=3 then evD s.e l else none
def pG:Option Int→Int→Bool
 |none=>fun _=>false
 |some t=>aJ [(t,1048577)]
theorem jL (o:Option Int):jW (pG o) 1:=by
 cases o with
 |none=>exact .of (R:=[]) ⟨trivial,fun _ _ _=>rfl⟩ (by simp)
 |some t=>
  have h0:jW (fun _=>false) 0:=.of (R:=[]) ⟨trivial,fun _ _ _=>rfl⟩ (by simp)
  have:=h0.ext t
  simpa[pG]using this
theorem mW:canon (pG none)=[]:=(iG (R:=[]) (P:=pG none) ⟨trivial,fun _ _ _=>rfl⟩).symm
def kG (e:En) (P:Int→Bool) (x:En):Int→Bool:=
 if refers x.it e.act e.item=true then (if x.it.kind=8 then fun d=>P d&&aJ [(0,x.it.d)] d else if x.it.kind=11 then P else fun d=>P d||aJ [(x.it.d,1048577)] d) else P
def jP (P:Int→Bool) (e:En) (l:List En):Int→Bool:=l.foldl (kG e) P
theorem OD {e:En} {P:Int→Bool} {n:Nat} (x:En) (h:jW P n):jW (kG e P x) (n+1):=by
 have h':jW P (n+1):=⟨h.1,Nat.le_succ_of_le h.2⟩
 unfold kG
 split
 ·split
  ·exact⟨(h.trunc _).1,Nat.le_succ_of_le (h.trunc _).2⟩
  ·split
   ·exact h'
   ·exact h.ext _
 ·exact h'
theorem lM {e:En}:∀{l:List En} {P:Int→Bool} {n:Nat},jW P n→jW (jP P e l) (n+l.length)
 |[],_,_,h=>h
 |x::l,P,n,h=>by
  have:=lM (e:=e) (l:=l) (OD (e:=e) x h)
  rw[List.length_cons,show n+(l.length+1)=n+1+l.length by omega]
  exact this
theorem zP {P:Int→Bool} {e:En} {l:List En} {k:Nat} {x:En} (hx:l[k]?=some x):jP P e (l.take (k+1))=kG e (jP P e (l.take k)) x:=by
 unfold jP
 rw[take_at hx,List.foldl_append,List.foldl_cons,List.foldl_nil]
noncomputable def bB (a:St) (e:En) (l:List En):List Sp:=if 0≤e.it.kind∧e.it.kind≤6 then canon (jP (pG (stD (uU a e.it.st) l)) e l) else []
end Go.Proofs.YtfjibfdelbodjaaGreat.Pe
