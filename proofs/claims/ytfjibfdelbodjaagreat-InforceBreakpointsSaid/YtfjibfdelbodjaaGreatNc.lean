/-
  The program's sets of days, as calls of plain values. Days in force, as sets (of no program but for the names).
-/
import Derived.Test.YtfjibfdelbodjaaGreatNb
import Derived.Test.YtfjibfdelbodjaaGreatMd
import Derived.Test.YtfjibfdelbodjaaGreatWAc
namespace Go.Proofs.YtfjibfdelbodjaaGreat.Pe
open Go Go.Pv Go.RowKit
set_option linter.unusedSimpArgs false
open Spans
set_option maxRecDepth 10000
set_option maxHeartbeats 16000000
theorem tX {Q:Nat→Prop} {w:World} {b:Nat}:∀{L:List Sp} {off:Nat},dA Q w 2 b off (L.map spv)→∀k,k < L.length→w.cell? ⟨b,off+k*2,none⟩=some (.int .i64 (fr L k))∧w.cell? ⟨b,off+k*2+1,none⟩=some (.int .i64 (to L k))
 |[],_,_,k,hk=>by simp at hk
 |a::L,off,h,k,hk=>by
  simp only[List.map_cons]at h
  unfold dA at h
  obtain⟨⟨v,h1,h2,h3⟩,h4⟩:=h
  unfold spv at h1
  obtain⟨vs,e,hC⟩:=bG.1 h1
  subst e
  simp only[aO,aF]at hC
  obtain⟨_,_,rfl,_,rfl,_,_,rfl,_,rfl,rfl⟩:=hC
  match k,hk with
  |0,_=>exact⟨h3 0 _ rfl,h3 1 _ rfl⟩
  |k+1,hk=>
   have:=tX h4 k (by simpa using hk)
   rw[show off+(k+1)*2=off+2+k*2 by omega]
   exact this
theorem uq {Q:Nat→Prop} {w:World} {b:Nat}:∀{L:List Sp} {off:Nat},(∀k,k < L.length→w.cell? ⟨b,off+k*2,none⟩=some (.int .i64 (fr L k))∧w.cell? ⟨b,off+k*2+1,none⟩=some (.int .i64 (to L k)))→dA Q w 2 b off (L.map spv)
 |[],_,_=>by simp[dA]
 |a::L,off,h=>by
  simp only[List.map_cons]
  unfold dA
  obtain⟨h1,h2⟩:=h 0 (by simp)
  refine⟨⟨.agg #[.int .i64 a.1,.int .i64 a.2],?_,rfl,fun j u hj=>?_⟩,uq fun k hk=>?_⟩
  ·unfold spv
   rw[bG]
   refine⟨_,rfl,?_⟩
   simp only[aO,aF]
   exact⟨_,_,rfl,rfl,rfl,_,_,rfl,rfl,rfl,rfl⟩
  ·match j,hj with
   |0,hj=>rw[←hj];exact h1
   |1,hj=>rw[←hj];exact h2
   |j+2,hj=>simp[Value.cells]at hj
  ·have:=h (k+1) (by simpa using hk)
   rw[show off+(k+1)*2=off+2+k*2 by omega]at this
   exact this
theorem vW {Q:Nat→Prop} {w:World} (hQ:∀b,Q b→b < w.heap.size) {L:List Sp} {v:Value} (h:aF Q w (.sl 2 (L.map spv)) v):∃A n c,v=.slice A n c∧aX w.heap.size w A n L:=by
 unfold aF at h
 obtain⟨a,c,e,_,_,h3⟩:=h
 rw[List.length_map]at e h3
 refine⟨a,_,c,e,rfl,fun hp=>?_⟩
 obtain⟨b,off,ea,hq,hR⟩:=h3 hp
 exact⟨b,off,ea,hQ b hq,tX hR⟩
theorem xA {f:FuncId} {X:Env} {args:List IV} {Pd:Int→Bool} (he:∀xs w,(callFunc f xs).run Tryz.prog w=.ok (.enter f xs) w)
  (h:∀(Q:Nat→Prop) (w:World) (vs:List Value),(∀b,Q b→b < w.heap.size)→aV Q w args vs→Calls Tryz.prog f vs.toArray w fun e w'=>lK w.heap.size Pd e w'∧Below w.heap.size w w'):PC Tryz.prog X f args [.sl 2 ((Rm.canon Pd).map spv)]:=by
 refine⟨he,fun Q w vs hQ _ hR hvs=>(h Q w vs hQ hvs).mono ?_⟩
 rintro e w' ⟨⟨A,n,c,R,rfl,hi,hs,⟨h1,h2,h3⟩,h4⟩,hb⟩
 have hsz:=hb.size
 refine⟨_,fun b=>Q b∨(w.heap.size≤b∧b < w'.heap.size),rfl,hb,fun b h=>Or.inl h,fun b h=>?_,?_⟩
 ·rcases h with h|h
  ·exact⟨Or.inl h,Nat.lt_of_lt_of_le (hQ b h) hsz⟩
  ·exact⟨Or.inr h.1,h.2⟩
 ·rw[←Rm.iD hi]
  show aF _ _ (.sl 2 (R.map spv)) (.slice A n c)
  obtain⟨k1,k2⟩:=hs
  unfold aF
  rw[List.length_map,k1]
  refine⟨A,c,rfl,h1,h2,fun hp=>?_⟩
  obtain⟨b,off,e,hb2,hcell⟩:=k2 hp
  exact⟨b,off,e,Or.inr ⟨h3 _ e,hb2⟩,uq fun k hk=>hcell k (by omega)⟩
theorem EZ (L:List Sp) (t:Int) (hl:L.length≤2000000):PC Tryz.prog aM 171 [.sl 2 (L.map spv),.int .i64 t] [.sl 2 ((Rm.canon fun d=>aK L d&&aK [(0,t)] d).map spv)]:=
 xA (enters_of Tryz.func171 rfl rfl) fun Q w vs hQ hvs=>by
  unfold aV at hvs
  obtain⟨v,r,rfl,h1,h2⟩:=hvs
  unfold aV at h2
  obtain⟨v2,r2,rfl,h3,h4⟩:=h2
  unfold aV at h4
  subst h4
  unfold aF at h3
  subst h3
  obtain⟨A,n,c,rfl,hz⟩:=vW hQ h1
  exact Dh L n c A t w hz (by have:=hz.1;omega)
theorem Ay (L:List Sp) (t:Int) (hl:L.length≤2000000):PC Tryz.prog aM 169 [.sl 2 (L.map spv),.int .i64 t] [.sl 2 ((Rm.canon fun d=>aK L d||aK [(t,1048577)] d).map spv)]:=
 xA (enters_of Tryz.func169 rfl rfl) fun Q w vs hQ hvs=>by
  unfold aV at hvs
  obtain⟨v,r,rfl,h1,h2⟩:=hvs
  unfold aV at h2
  obtain⟨v2,r2,rfl,h3,h4⟩:=h2
  unfold aV at h4
  subst h4
  unfold aF at h3
  subst h3
  obtain⟨A,n,c,rfl,hz⟩:=vW hQ h1
  exact yC L n c A t w hz (by have:=hz.1;omega)
end Go.Proofs.YtfjibfdelbodjaaGreat.Pe
namespace Go.Proofs.YtfjibfdelbodjaaGreat.Pe
open Go Go.Pv Go.RowKit
set_option linter.unusedSimpArgs false
open Spans Rm
set_option maxRecDepth 10000
def dU (t:Int):List Sp→List Sp
 |[]=>[]
 |s::r=>if s.1 < t then (s.1,min s.2 t)::dU t r else []
theorem sZ (t:Int):∀L:List Sp,(dU t L).length≤L.length
 |[]=>by simp[dU]
 |s::r=>by
  unfold dU
  split
  ·simpa using sZ t r
  ·simp
theorem IC {t:Int}:∀{L:List Sp} {lo:Int},gJ lo L→t≤lo→dU t L=[]
 |[],_,_,_=>rfl
 |s::r,lo,h,ht=>by
  unfold dU
  rw[if_neg (by have:=h.1;omega)]
theorem r9 {t:Int}:∀{L:List Sp} {lo:Int},gJ lo L→gJ lo (dU t L)
 |[],_,_=>trivial
 |s::r,lo,h=>by
  obtain⟨h1,h2,h3,h4⟩:=h
  unfold dU
  split
  ·rename_i ht
   refine⟨h1,by simp only[];omega,by simp only[];omega,?_⟩
   by_cases hm:s.2≤t
   ·rw[show min s.2 t=s.2 by omega];exact r9 h4
   ·rw[IC h4 (by omega)];trivial
  ·trivial
theorem sj {t:Int}:∀{L:List Sp} {lo:Int},gJ lo L→∀d,aK (dU t L) d=(aK L d&&decide (d < t))
 |[],_,_,d=>by simp[dU,aK]
 |s::r,lo,h,d=>by
  obtain⟨h1,h2,h3,h4⟩:=h
  unfold dU
  split
  ·rename_i ht
   rw[aK,aK,sj h4 d,Bool.and_or_distrib_right]
   congr 1
   rw[Bool.eq_iff_iff]
   simp
   omega
  ·rename_i ht
   by_cases hd:d < t
   ·have:aK (s::r) d=false:=ko (s::r) (s.1 - 1) d ⟨by omega,h2,h3,h4⟩ (by omega)
    rw[this];rfl
   ·rw[decide_eq_false hd,Bool.and_false];rfl
theorem xY {t:Int}:∀L:List Sp,∀x∈dU t L,x.1 < t
 |[],x,h=>by simp[dU]at h
 |s::r,x,h=>by
  unfold dU at h
  split at h
  ·rcases List.mem_cons.1 h with rfl|h
   ·assumption
   ·exact xY r x h
  ·cases h
def jU (P:Int→Bool) (n:Nat):Prop:=Is (canon P) P∧(canon P).length≤n
theorem jU.of {P:Int→Bool} {R:List Sp} {n:Nat} (h:Is R P) (hn:R.length≤n):jU P n:=by
 have e:=iD h
 exact⟨e ▸ h,e ▸ hn⟩
theorem jU.val {P:Int→Bool} {n:Nat} (h:jU P n) (d:Int) (h0:0≤d) (h1:d≤1048576):aK (canon P) d=P d:=h.1.2 d h0 h1
theorem jU.trunc {P:Int→Bool} {n:Nat} (h:jU P n) (t:Int):jU (fun d=>P d&&aK [(0,t)] d) n:=
 .of (R:=dU t (canon P)) ⟨r9 h.1.1,fun d h0 h1=>by dsimp only;rw[sj h.1.1,h.val d h0 h1,yZ d t h0]⟩ (Nat.le_trans (sZ _ _) h.2)
theorem jU.ext {P:Int→Bool} {n:Nat} (h:jU P n) (t:Int):jU (fun d=>P d||aK [(t,1048577)] d) (n+1):=by
 by_cases ht:t≤1048576
 ·have ok:=Cq (dU (max t 0) (canon P)) (max t 0,1048577) (r9 h.1.1) (fun x hx=>by
   have:=xY (t:=max t 0) (canon P) x (List.mem_of_getLast? hx)
   simp only[];omega) (by simp only[];omega) (by simp only[];omega) (Int.le_refl _)
  refine .of (R:=apS (dU (max t 0) (canon P)) (max t 0,1048577)) ⟨ok.1,fun d h0 h1=>?_⟩ ?_
  ·dsimp only;rw[ok.2.1 d,sj h.1.1,h.val d h0 h1,oU d t h1,oU d (max t 0) h1]
   cases P d<;>simp<;>omega
  ·have:=oP (dU (max t 0) (canon P)) (max t 0,1048577)
   have:=sZ (max t 0) (canon P)
   have:=h.2
   omega
 ·refine .of (R:=canon P) ⟨h.1.1,fun d h0 h1=>?_⟩ (by have:=h.2;omega)
  dsimp only;rw[h.val d h0 h1,oU d t h1,decide_eq_true (show d < t by omega),Bool.not_true,Bool.or_false]
def stD (s:St) (l:List En):Option Int:=if s.k=1 then some s.d else if s.k=3 then evD s.e l else none
def pE:Option Int→Int→Bool
 |none=>fun _=>false
 |some t=>aK [(t,1048577)]
theorem jL (o:Option Int):jU (pE o) 1:=by
 cases o with
 |none=>exact .of (R:=[]) ⟨trivial,fun _ _ _=>rfl⟩ (by simp)
 |some t=>
  have h0:jU (fun _=>false) 0:=.of (R:=[]) ⟨trivial,fun _ _ _=>rfl⟩ (by simp)
  have:=h0.ext t
  simpa[pE]using this
theorem nV:canon (pE none)=[]:=(iD (R:=[]) (P:=pE none) ⟨trivial,fun _ _ _=>rfl⟩).symm
def jZ (e:En) (P:Int→Bool) (x:En):Int→Bool:=
 if refers x.it e.act e.item=true then (if x.it.kind=8 then fun d=>P d&&aK [(0,x.it.d)] d else if x.it.kind=11 then P else fun d=>P d||aK [(x.it.d,1048577)] d) else P
def jF (P:Int→Bool) (e:En) (l:List En):Int→Bool:=l.foldl (jZ e) P
theorem Nf {e:En} {P:Int→Bool} {n:Nat} (x:En) (h:jU P n):jU (jZ e P x) (n+1):=by
 have h':jU P (n+1):=⟨h.1,Nat.le_succ_of_le h.2⟩
 unfold jZ
 split
 ·split
  ·exact⟨(h.trunc _).1,Nat.le_succ_of_le (h.trunc _).2⟩
  ·split
   ·exact h'
   ·exact h.ext _
 ·exact h'
theorem kW {e:En}:∀{l:List En} {P:Int→Bool} {n:Nat},jU P n→jU (jF P e l) (n+l.length)
 |[],_,_,h=>h
 |x::l,P,n,h=>by
  have:=kW (e:=e) (l:=l) (Nf (e:=e) x h)
  rw[List.length_cons,show n+(l.length+1)=n+1+l.length by omega]
  exact this
theorem zx {P:Int→Bool} {e:En} {l:List En} {k:Nat} {x:En} (hx:l[k]?=some x):jF P e (l.take (k+1))=jZ e (jF P e (l.take k)) x:=by
 unfold jF
 rw[take_at hx,List.foldl_append,List.foldl_cons,List.foldl_nil]
noncomputable def bC (a:St) (e:En) (l:List En):List Sp:=if 0≤e.it.kind∧e.it.kind≤6 then canon (jF (pE (stD (uK a e.it.st) l)) e l) else []
end Go.Proofs.YtfjibfdelbodjaaGreat.Pe
