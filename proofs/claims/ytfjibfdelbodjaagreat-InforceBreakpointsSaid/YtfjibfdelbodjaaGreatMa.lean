/-
  The plain mathematics of sets of days: lists of spans, membership, canonical lists, and that a canonical list is determined by its days. It imports nothing of the program. Sets of days: the mathematics of the reference's sets (of no program).
-/
namespace Go.Proofs.YtfjibfdelbodjaaGreat
namespace Spans
abbrev Sp:=Int×Int
def aK:List Sp→Int→Bool
 |[],_=>false
 |s::r,d=>decide (s.1≤d∧d < s.2)||aK r d
def gJ:Int→List Sp→Prop
 |_,[]=>True
 |lo,s::r=>lo < s.1∧s.1 < s.2∧s.2≤1048577∧gJ s.2 r
theorem nS (a b:List Sp) (d:Int):aK (a++b) d=(aK a d||aK b d):=by
 induction a with
 |nil=>simp[aK]
 |cons s r ih=>simp[aK,ih,Bool.or_assoc]
theorem ko:∀(L:List Sp) (lo d:Int),gJ lo L→d≤lo→aK L d=false
 |[],_,_,_,_=>rfl
 |s::r,lo,d,h,hd=>by
  obtain⟨h1,h2,_,h4⟩:=h
  rw[aK,ko r s.2 d h4 (by omega)]
  simp
  omega
theorem ES:∀(L:List Sp) (lo d:Int),gJ lo L→1048577≤d→aK L d=false
 |[],_,_,_,_=>rfl
 |s::r,lo,d,h,hd=>by
  obtain⟨h1,h2,h3,h4⟩:=h
  rw[aK,ES r s.2 d h4 hd]
  simp
  omega
theorem jQ {s:Sp} {r:List Sp} (d:Int) (h1:s.1≤d) (h2:d < s.2):aK (s::r) d=true:=by
 rw[aK]
 simp[h1,h2]
theorem iF {s:Sp} {r:List Sp} (d:Int) (h:d < s.1∨s.2≤d):aK (s::r) d=aK r d:=by
 rw[aK]
 have:decide (s.1≤d∧d < s.2)=false:=by rw[decide_eq_false_iff_not];omega
 rw[this,Bool.false_or]
theorem wz:∀(a b:List Sp) (lo:Int),-1≤lo→gJ lo a→gJ lo b→(∀d,lo < d→d≤1048576→aK a d=aK b d)→a=b
 |[],[],_,_,_,_,_=>rfl
 |[],t::q,lo,hlo,_,hb,h=>by
  obtain⟨h1,h2,h3,_⟩:=hb
  have:=h t.1 h1 (by omega)
  rw[jQ t.1 (by omega) h2]at this
  cases this
 |s::r,[],lo,hlo,ha,_,h=>by
  obtain⟨h1,h2,h3,_⟩:=ha
  have:=h s.1 h1 (by omega)
  rw[jQ s.1 (by omega) h2]at this
  cases this
 |s::r,t::q,lo,hlo,ha,hb,h=>by
  obtain⟨a1,a2,a3,a4⟩:=ha
  obtain⟨b1,b2,b3,b4⟩:=hb
  have e1:s.1=t.1:=by
   rcases Int.lt_trichotomy s.1 t.1 with hh|hh|hh
   ·have:=h s.1 a1 (by omega)
    rw[jQ s.1 (by omega) a2,iF s.1 (Or.inl hh),ko q t.2 s.1 b4 (by omega)]at this
    cases this
   ·exact hh
   ·have:=h t.1 b1 (by omega)
    rw[jQ t.1 (by omega) b2,iF t.1 (Or.inl hh),ko r s.2 t.1 a4 (by omega)]at this
    cases this
  have e2:s.2=t.2:=by
   rcases Int.lt_trichotomy s.2 t.2 with hh|hh|hh
   ·have:=h s.2 (by omega) (by omega)
    rw[jQ (s:=t) s.2 (by omega) hh,iF s.2 (Or.inr (by omega)),ko r s.2 s.2 a4 (by omega)]at this
    cases this
   ·exact hh
   ·have:=h t.2 (by omega) (by omega)
    rw[jQ (s:=s) t.2 (by omega) hh,iF (s:=t) t.2 (Or.inr (by omega)),ko q t.2 t.2 b4 (by omega)]at this
    cases this
  have es:s=t:=Prod.ext e1 e2
  subst es
  congr 1
  refine wz r q s.2 (by omega) a4 b4 fun d hd hd2=>?_
  have:=h d (by omega) hd2
  rwa [iF d (Or.inr (by omega)),iF d (Or.inr (by omega))]at this
def Is (R:List Sp) (P:Int→Bool):Prop:=gJ (-1) R∧∀d,0≤d→d≤1048576→aK R d=P d
theorem Is.unique {R S:List Sp} {P Q:Int→Bool} (hR:Is R P) (hS:Is S Q) (h:∀d,0≤d→d≤1048576→P d=Q d):R=S:=
 wz R S (-1) (by omega) hR.1 hS.1 fun d h0 h1=>by rw[hR.2 d (by omega) h1,hS.2 d (by omega) h1,h d (by omega) h1]
theorem Is.congr {R:List Sp} {P Q:Int→Bool} (hR:Is R P) (h:∀d,0≤d→d≤1048576→P d=Q d):Is R Q:=
 ⟨hR.1,fun d h0 h1=>by rw[hR.2 d h0 h1,h d h0 h1]⟩
theorem Is.all {R:List Sp} {P:Int→Bool} (hR:Is R P) (d:Int):aK R d=(decide (0≤d∧d≤1048576)&&P d):=by
 by_cases h:0≤d∧d≤1048576
 ·rw[hR.2 d h.1 h.2];simp[h]
 ·have:decide (0≤d∧d≤1048576)=false:=by rw[decide_eq_false_iff_not];exact h
  rw[this,Bool.false_and]
  by_cases h0:d < 0
  ·exact ko R (-1) d hR.1 (by omega)
  ·exact ES R (-1) d hR.1 (by omega)
theorem F3:∀(L:List Sp) (lo f t:Int) (s:Sp),gJ lo (L++[(f,t)])→t < s.1→s.1 < s.2→s.2≤1048577→gJ lo (L++[(f,t)]++[s])
 |[],lo,f,t,s,h,h1,h2,h3=>by
  obtain⟨a,b,c,_⟩:=h
  exact⟨a,b,c,h1,h2,h3,trivial⟩
 |x::L,lo,f,t,s,h,h1,h2,h3=>by
  obtain⟨a,b,c,d⟩:=h
  exact⟨a,b,c,F3 L x.2 f t s d h1 h2 h3⟩
theorem Dp:∀(L:List Sp) (lo f t u:Int),gJ lo (L++[(f,t)])→t≤u→u≤1048577→gJ lo (L++[(f,u)])
 |[],lo,f,t,u,h,h1,h2=>by
  obtain⟨a,b,c,_⟩:=h
  exact⟨a,by simp only at b ⊢;omega,by simpa using h2,trivial⟩
 |x::L,lo,f,t,u,h,h1,h2=>by
  obtain⟨a,b,c,d⟩:=h
  exact⟨a,b,c,Dp L x.2 f t u d h1 h2⟩
theorem BD:∀(K:List Sp) (lo:Int) (x:Sp),gJ lo (K++[x])→x.1 < x.2∧x.2≤1048577
 |[],_,_,h=>⟨h.2.1,h.2.2.1⟩
 |y::K,_,x,h=>BD K y.2 x h.2.2.2
def apS (L:List Sp) (s:Sp):List Sp:=
 match L.getLast? with
 |none=>L++[s]
 |some x=>if x.2 < s.1 then L++[s] else L.dropLast++[(x.1,max x.2 s.2)]
theorem qm (s:Sp):apS [] s=[s]:=rfl
theorem kN (L:List Sp) (x s:Sp):apS (L++[x]) s=if x.2 < s.1 then L++[x]++[s] else L++[(x.1,max x.2 s.2)]:=by
 unfold apS
 simp
def tH (L:List Sp) (f:Int):Prop:=∀x,L.getLast?=some x→x.1≤f
theorem Cq (L:List Sp) (s:Sp) (h:gJ (-1) L) (hl:tH L s.1) (h0:0≤s.1) (h1:s.1 < s.2) (h2:s.2≤1048577) :
  gJ (-1) (apS L s)∧(∀d,aK (apS L s) d=(aK L d||aK [s] d))∧tH (apS L s) s.1:=by
 rcases List.eq_nil_or_concat L with rfl|⟨K,x,rfl⟩
 ·rw[qm]
  exact⟨⟨by omega,h1,h2,trivial⟩,fun d=>by simp[aK],fun y hy=>by simp at hy;subst hy;exact Int.le_refl _⟩
 ·have hx:x.1≤s.1:=hl x (by simp)
  rw[List.concat_eq_append]at h ⊢
  rw[kN]
  have hx2:=BD K (-1) x h
  by_cases hc:x.2 < s.1
  ·rw[if_pos hc]
   exact⟨F3 K (-1) x.1 x.2 s h hc h1 h2,fun d=>by rw[nS],fun y hy=>by simp at hy;subst hy;exact Int.le_refl _⟩
  ·rw[if_neg hc]
   refine⟨Dp K (-1) x.1 x.2 _ h (by omega) (by omega),fun d=>?_,fun y hy=>by simp at hy;subst hy;exact hx⟩
   rw[nS,nS,Bool.or_assoc]
   congr 1
   simp only[aK,Bool.or_false]
   rw[Bool.eq_iff_iff]
   simp only[Bool.or_eq_true,decide_eq_true_eq]
   omega
end Spans
end Go.Proofs.YtfjibfdelbodjaaGreat
namespace Go.Proofs.YtfjibfdelbodjaaGreat.Rm
open Spans
def fr (L:List Sp) (k:Nat):Int:=(L.getD k (0,0)).1
def tu (L:List Sp) (k:Nat):Int:=(L.getD k (0,0)).2
theorem iG:∀(L:List Sp) (d:Int),aK L d=true↔∃s∈L,s.1≤d∧d < s.2
 |[],d=>by simp[aK]
 |s::r,d=>by
  rw[aK,Bool.or_eq_true,iG r d,decide_eq_true_eq]
  constructor
  ·rintro (h|⟨x,hx,h⟩)
   ·exact⟨s,by simp,h⟩
   ·exact⟨x,by simp[hx],h⟩
  ·rintro⟨x,hx,h⟩
   rcases List.mem_cons.1 hx with rfl|hx
   ·exact Or.inl h
   ·exact Or.inr ⟨x,hx,h⟩
theorem jq (L:List Sp) (k:Nat) (hk:k < L.length):L.take (k+1)=L.take k++[(fr L k,tu L k)]:=by
 rw[List.take_succ_eq_append_getElem hk]
 congr 2
 unfold fr tu
 rw[List.getD,List.getElem?_eq_getElem hk]
 rfl
theorem Ny (P:List Sp) (k:Nat) (hk:k < P.length):(fr P k,tu P k)∈P:=by
 unfold fr tu
 rw[List.getD,List.getElem?_eq_getElem hk]
 exact List.getElem_mem hk
theorem oP (L:List Sp) (s:Sp):(apS L s).length≤L.length+1:=by
 rcases List.eq_nil_or_concat L with rfl|⟨K,x,rfl⟩
 ·simp[qm]
 ·rw[List.concat_eq_append,kN]
  split<;>simp
def eU (L:List Sp) (d:Int):Bool:=decide (0≤d∧d≤1048576)&&aK L d
def el (zs:List Int) (k:Nat):Int:=zs.getD k 0
def opB (h:Int) (x y:Bool):Bool:=if h=0 then x||y else if h=1 then x&&y else x&&!y
def jV:List Int→Int→List Int
 |[],n=>[n]
 |x::r,n=>if x < n then x::jV r n else if x=n then x::r else n::x::r
theorem CW:∀(zs:List Int) (n:Int) (k:Nat),k≤zs.length→(∀j,j < k→el zs j < n)→(k < zs.length→¬el zs k < n)→
  jV zs n=if k < zs.length∧el zs k=n then zs else zs.take k++n::zs.drop k
 |[],n,k,hk,_,_=>by
  obtain rfl:k=0:=by simpa using hk
  simp[jV]
 |x::r,n,0,_,_,h=>by
  have h0:¬x < n:=h (by simp)
  have e0:el (x::r) 0=x:=rfl
  rw[jV,if_neg h0,e0]
  by_cases hx:x=n
  ·rw[if_pos hx,if_pos ⟨by simp,hx⟩]
  ·rw[if_neg hx,if_neg (by simp[hx])]
   rfl
 |x::r,n,k+1,hk,hj,h=>by
  have h0:x < n:=hj 0 (by omega)
  have ih:=CW r n k (by simpa using hk) (fun j hjk=>hj (j+1) (by omega)) (fun hl=>h (by simpa using hl))
  have e0:el (x::r) (k+1)=el r k:=rfl
  rw[jV,if_pos h0,ih,e0]
  by_cases hx:k < r.length∧el r k=n
  ·rw[if_pos hx,if_pos ⟨by simpa using hx.1,hx.2⟩]
  ·rw[if_neg hx,if_neg (fun hh=>hx ⟨by simpa using hh.1,hh.2⟩)]
   rfl
theorem mZ:∀(zs:List Int) (n x:Int),x∈jV zs n↔x∈zs∨x=n
 |[],n,x=>by simp[jV]
 |y::r,n,x=>by
  rw[jV]
  by_cases h1:y < n
  ·rw[if_pos h1,List.mem_cons,mZ r n x,List.mem_cons,or_assoc]
  ·rw[if_neg h1]
   by_cases h2:y=n
   ·subst h2
    rw[if_pos rfl,List.mem_cons]
    constructor
    ·exact Or.inl
    ·rintro (h|h)
     ·exact h
     ·exact Or.inl h
   ·rw[if_neg h2,List.mem_cons,or_comm]
theorem EA:∀(zs:List Int) (n:Int),zs.Pairwise (· < ·)→(jV zs n).Pairwise (· < ·)
 |[],n,_=>by simp[jV]
 |y::r,n,h=>by
  obtain⟨h1,h2⟩:=List.pairwise_cons.1 h
  rw[jV]
  by_cases c1:y < n
  ·rw[if_pos c1,List.pairwise_cons]
   refine⟨fun x hx=>?_,EA r n h2⟩
   rcases (mZ r n x).1 hx with hx|rfl
   ·exact h1 x hx
   ·exact c1
  ·rw[if_neg c1]
   by_cases c2:y=n
   ·rw[if_pos c2]
    exact h
   ·rw[if_neg c2,List.pairwise_cons]
    refine⟨fun x hx=>?_,h⟩
    rcases List.mem_cons.1 hx with rfl|hx
    ·omega
    ·have:=h1 x hx
     omega
theorem rE:∀(zs:List Int) (n:Int),zs.length≤(jV zs n).length∧(jV zs n).length≤zs.length+1∧0 < (jV zs n).length
 |[],n=>by simp[jV]
 |y::r,n=>by
  obtain⟨h1,h2,h3⟩:=rE r n
  rw[jV]
  split
  ·simp only[List.length_cons];omega
  ·split<;>simp only[List.length_cons]<;>omega
theorem LJ (r:List Int) (n:Int) (h:0 < n):∃r',jV (0::r) n=0::r':=⟨_,by rw[jV,if_pos h]⟩
def iQ (zs:List Int) (e:Int):List Int:=if 0 < e∧e≤1048576 then jV zs e else zs
def Cu (zs:List Int) (s:Sp):List Int:=iQ (iQ zs s.1) s.2
def pts (L:List Sp):List Int:=L.foldl Cu [0]
theorem NK (L:List Sp) (k:Nat) (hk:k < L.length):pts (L.take (k+1))=iQ (iQ (pts (L.take k)) (fr L k)) (tu L k):=by
 rw[jq L k hk]
 simp[pts,Cu]
def uf (zs:List Int):Prop:=(∃r,zs=0::r)∧zs.Pairwise (· < ·)∧∀x∈zs,0≤x∧x≤1048576
theorem step_ok {zs:List Int} (h:uf zs) (e:Int):uf (iQ zs e)∧(∀x∈zs,x∈iQ zs e)∧(0 < e→e≤1048576→e∈iQ zs e)∧(iQ zs e).length≤zs.length+1∧0 < (iQ zs e).length:=by
 unfold iQ
 obtain⟨⟨r,rfl⟩,h2,h3⟩:=h
 by_cases he:0 < e∧e≤1048576
 ·rw[if_pos he]
  refine⟨⟨LJ r e he.1,EA _ e h2,fun x hx=>?_⟩,fun x hx=>(mZ _ e x).2 (Or.inl hx),fun _ _=>(mZ _ e e).2 (Or.inr rfl),(rE _ e).2.1,(rE _ e).2.2⟩
  rcases (mZ _ e x).1 hx with hx|rfl
  ·exact h3 x hx
  ·omega
 ·rw[if_neg he]
  exact⟨⟨⟨r,rfl⟩,h2,h3⟩,fun x hx=>hx,fun h0 h1=>absurd ⟨h0,h1⟩ he,by omega,by simp⟩
theorem qU:∀(L:List Sp) (zs:List Int),uf zs→uf (L.foldl Cu zs)∧(∀x∈zs,x∈L.foldl Cu zs)∧(∀s∈L,∀e,e=s.1∨e=s.2→0 < e→e≤1048576→e∈L.foldl Cu zs)∧(L.foldl Cu zs).length≤zs.length+2*L.length
 |[],zs,h=>⟨h,fun _ hx=>hx,fun s hs=>by simp at hs,by simp⟩
 |s::r,zs,h=>by
  obtain⟨a1,a2,a3,a4,_⟩:=step_ok h s.1
  obtain⟨b1,b2,b3,b4,_⟩:=step_ok a1 s.2
  obtain⟨c1,c2,c3,c4⟩:=qU r (Cu zs s) b1
  refine⟨c1,fun x hx=>c2 x (b2 x (a2 x hx)),fun t ht e he h0 h1=>?_,?_⟩
  ·rcases List.mem_cons.1 ht with rfl|ht
   ·rcases he with rfl|rfl
    ·exact c2 _ (b2 _ (a3 h0 h1))
    ·exact c2 _ (b3 h0 h1)
   ·exact c3 t ht e he h0 h1
  ·have e:(Cu zs s).length≤zs.length+2:=by unfold Cu;omega
   simp only[List.foldl_cons,List.length_cons]
   omega
theorem xW:uf [0]:=⟨⟨[],rfl⟩,by simp,fun x hx=>by simp at hx;omega⟩
theorem JZ (L:List Sp):(pts L).length≤1+2*L.length:=(qU L [0] xW).2.2.2
theorem wu (L:List Sp):uf (pts L):=(qU L [0] xW).1
theorem QO (L:List Sp) {s:Sp} (hs:s∈L) {e:Int} (he:e=s.1∨e=s.2) (h0:0 < e) (h1:e≤1048576):e∈pts L:=(qU L [0] xW).2.2.1 s hs e he h0 h1
theorem vG (zs:List Int) (e:Int) (h0:0 < e) (h1:e≤1048576):iQ zs e=jV zs e:=by unfold iQ;rw[if_pos ⟨h0,h1⟩]
theorem qw (zs:List Int) (e:Int) (h0:¬0 < e):iQ zs e=zs:=by unfold iQ;rw[if_neg (fun h=>h0 h.1)]
theorem oJ (zs:List Int) (e:Int) (h1:¬e≤1048576):iQ zs e=zs:=by unfold iQ;rw[if_neg (fun h=>h1 h.2)]
theorem y8 (L:List Sp) (x y:Int) (h0:0≤x) (hy:y≤1048577) (h:∀s∈L,∀e,e=s.1∨e=s.2→¬(x < e∧e < y)) (d:Int) (hd:x≤d) (hd2:d < y):eU L d=eU L x:=by
 have hm:∀(L:List Sp),(∀s∈L,∀e,e=s.1∨e=s.2→¬(x < e∧e < y))→aK L d=aK L x:=by
  intro L
  induction L with
  |nil=>intro _;rfl
  |cons s r ih=>
   intro h
   rw[aK,aK,ih (fun t ht=>h t (List.mem_cons_of_mem _ ht))]
   congr 1
   have e1:=h s (List.mem_cons_self ..) s.1 (Or.inl rfl)
   have e2:=h s (List.mem_cons_self ..) s.2 (Or.inr rfl)
   rw[Bool.eq_iff_iff,decide_eq_true_eq,decide_eq_true_eq]
   omega
 unfold eU
 rw[hm L h,decide_eq_true (show 0≤d∧d≤1048576 by omega),decide_eq_true (show 0≤x∧x≤1048576 by omega)]
def nx (zs:List Int) (k:Nat):Int:=if k+1 < zs.length then el zs (k+1) else 1048577
def bd (zs:List Int) (k:Nat):Int:=if k < zs.length then el zs k else 1048577
theorem Tp (zs:List Int) (k:Nat):nx zs k=bd zs (k+1):=rfl
theorem L9 {zs:List Int} (h:zs.Pairwise (· < ·)) {i j:Nat} (hij:i < j) (hj:j < zs.length):el zs i < el zs j:=by
 have:=List.pairwise_iff_getElem.1 h i j (by omega) hj hij
 unfold el
 simpa[List.getD,List.getElem?_eq_getElem hj,List.getElem?_eq_getElem (Nat.lt_trans hij hj)]using this
theorem Ri {zs:List Int} {k:Nat} (hk:k < zs.length):el zs k∈zs:=by
 unfold el
 rw[List.getD,List.getElem?_eq_getElem hk]
 exact List.getElem_mem hk
theorem Td {zs:List Int} {x:Int} (h:x∈zs):∃k,k < zs.length∧el zs k=x:=by
 obtain⟨k,hk,e⟩:=List.getElem_of_mem h
 exact⟨k,hk,by unfold el;rw[List.getD,List.getElem?_eq_getElem hk];exact e⟩
theorem qj {zs:List Int} (h:uf zs) {k:Nat} (hk:k < zs.length):0≤el zs k∧el zs k < nx zs k∧nx zs k≤1048577:=by
 obtain⟨_,h2,h3⟩:=h
 have r1:=h3 _ (Ri hk)
 unfold nx
 by_cases c:k+1 < zs.length
 ·rw[if_pos c]
  have r2:=h3 _ (Ri c)
  have:=L9 h2 (show k < k+1 by omega) c
  omega
 ·rw[if_neg c]
  omega
theorem Sn (L:List Sp) (k:Nat) (hk:k < (pts L).length):∀s∈L,∀e,e=s.1∨e=s.2→¬(el (pts L) k < e∧e < nx (pts L) k):=by
 rintro s hs e he ⟨g1,g2⟩
 have hok:=wu L
 obtain⟨r1,r2,r3⟩:=qj hok hk
 obtain⟨j,hj,ej⟩:=Td (QO L hs he (by omega) (by omega))
 rcases Nat.lt_or_ge k j with h|h
 ·have:nx (pts L) k≤e:=by
   unfold nx
   rw[if_pos (by omega)]
   rcases Nat.lt_or_ge (k+1) j with h'|h'
   ·have:=L9 hok.2.1 h' hj
    omega
   ·obtain rfl:j=k+1:=by omega
    omega
  omega
 ·rcases Nat.lt_or_ge j k with h'|h'
  ·have:=L9 hok.2.1 h' hk
   omega
  ·obtain rfl:j=k:=by omega
   omega
theorem Ew (h:Int) (La Lb:List Sp) (k:Nat) (hk:k < (pts (La++Lb)).length) (d:Int) (h0:el (pts (La++Lb)) k≤d) (h1:d < nx (pts (La++Lb)) k) :
  opB h (eU La d) (eU Lb d)=opB h (eU La (el (pts (La++Lb)) k)) (eU Lb (el (pts (La++Lb)) k)):=by
 obtain⟨r1,r2,r3⟩:=qj (wu (La++Lb)) hk
 have g:=Sn (La++Lb) k hk
 rw[y8 La _ _ r1 r3 (fun s hs=>g s (List.mem_append_left _ hs)) d h0 h1,y8 Lb _ _ r1 r3 (fun s hs=>g s (List.mem_append_right _ hs)) d h0 h1]
def dF (P:Int→Bool) (zs:List Int):Nat→List Sp
 |0=>[]
 |k+1=>if P (el zs k)=true then apS (dF P zs k) (el zs k,nx zs k) else dF P zs k
def J3 (L:List Sp) (b:Int):Prop:=∀x,L.getLast?=some x→x.2≤b
theorem Q5 (L:List Sp) (s:Sp) (h:J3 L s.1) (hs:s.1 < s.2):J3 (apS L s) s.2:=by
 rcases List.eq_nil_or_concat L with rfl|⟨K,x,rfl⟩
 ·intro y hy
  rw[qm]at hy
  simp at hy
  subst hy
  exact Int.le_refl _
 ·have hx:x.2≤s.1:=h x (by simp)
  rw[List.concat_eq_append,kN]
  split
  ·intro y hy;simp at hy;subst hy;exact Int.le_refl _
  ·intro y hy;simp at hy;subst hy;simp only;omega
theorem vV (P:Int→Bool) (zs:List Int) (hz:uf zs) (hc:∀k,k < zs.length→∀d,el zs k≤d→d < nx zs k→P d=P (el zs k)):∀k,k≤zs.length→
  gJ (-1) (dF P zs k)∧J3 (dF P zs k) (bd zs k)∧(∀d,0≤d→d≤1048576→aK (dF P zs k) d=(decide (d < bd zs k)&&P d))∧(dF P zs k).length≤k
 |0,_=>by
  refine⟨trivial,fun x hx=>by simp[dF]at hx,fun d h0 h1=>?_,by simp[dF]⟩
  obtain⟨⟨r,rfl⟩,_,_⟩:=hz
  have e:bd (0::r) 0=0:=by unfold bd;rw[if_pos (by simp)];rfl
  rw[e,decide_eq_false (by omega)]
  rfl
 |k+1,hk=>by
  obtain⟨i1,i2,i3,i4⟩:=vV P zs hz hc k (by omega)
  have hkl:k < zs.length:=by omega
  obtain⟨r1,r2,r3⟩:=qj hz hkl
  have eb:bd zs k=el zs k:=by unfold bd;rw[if_pos hkl]
  rw[eb]at i2 i3
  rw[←Tp,dF]
  by_cases hp:P (el zs k)=true
  ·rw[if_pos hp]
   have hl:tH (dF P zs k) (el zs k):=by
    intro x hx
    have h2:=i2 x hx
    rcases List.eq_nil_or_concat (dF P zs k) with h|⟨K,y,h⟩
    ·rw[h]at hx;simp at hx
    ·rw[h,List.concat_eq_append]at hx i1
     simp at hx
     subst hx
     have:=(BD K (-1) y i1).1
     omega
   obtain⟨a1,a2,a3⟩:=Cq (dF P zs k) (el zs k,nx zs k) i1 hl r1 r2 r3
   refine⟨a1,Q5 _ _ i2 r2,fun d h0 h1=>?_,by have:=oP (dF P zs k) (el zs k,nx zs k);omega⟩
   rw[a2,i3 d h0 h1]
   by_cases c1:d < el zs k
   ·rw[decide_eq_true c1,decide_eq_true (show d < nx zs k by omega)]
    have:aK [(el zs k,nx zs k)] d=false:=by simp[aK];omega
    rw[this,Bool.or_false]
   ·by_cases c2:d < nx zs k
    ·rw[decide_eq_false c1,decide_eq_true c2,hc k hkl d (by omega) c2,hp]
     simp[aK];omega
    ·rw[decide_eq_false c1,decide_eq_false c2]
     simp[aK];omega
  ·rw[if_neg hp]
   refine⟨i1,fun x hx=>by have:=i2 x hx;omega,fun d h0 h1=>?_,by omega⟩
   rw[i3 d h0 h1]
   by_cases c1:d < el zs k
   ·rw[decide_eq_true c1,decide_eq_true (show d < nx zs k by omega)]
   ·by_cases c2:d < nx zs k
    ·have hpf:P (el zs k)=false:=by simpa using hp
     rw[decide_eq_false c1,decide_eq_true c2,hc k hkl d (by omega) c2,hpf]
     rfl
    ·rw[decide_eq_false c1,decide_eq_false c2]
def opP (h:Int) (La Lb:List Sp) (d:Int):Bool:=opB h (eU La d) (eU Lb d)
theorem Ke (h:Int) (La Lb:List Sp):Is (dF (opP h La Lb) (pts (La++Lb)) (pts (La++Lb)).length) (opP h La Lb):=by
 obtain⟨i1,_,i3,_⟩:=vV (opP h La Lb) (pts (La++Lb)) (wu _) (fun k hk d h0 h1=>Ew h La Lb k hk d h0 h1) _ (Nat.le_refl _)
 refine⟨i1,fun d h0 h1=>?_⟩
 rw[i3 d h0 h1]
 have e:bd (pts (La++Lb)) (pts (La++Lb)).length=1048577:=by unfold bd;rw[if_neg (by omega)]
 rw[e,decide_eq_true (by omega),Bool.true_and]
open Classical in
noncomputable def canon (P:Int→Bool):List Sp:=if h:∃R,Is R P then Classical.choose h else []
theorem iD {P:Int→Bool} {R:List Sp} (h:Is R P):R=canon P:=by
 have he:∃R,Is R P:=⟨R,h⟩
 unfold canon
 rw[dif_pos he]
 exact h.unique (Classical.choose_spec he) fun _ _ _=>rfl
theorem mh (L:List Sp) (d:Int) (h0:0≤d) (h1:d≤1048576):eU L d=aK L d:=by unfold eU;rw[decide_eq_true ⟨h0,h1⟩,Bool.true_and]
theorem op0 (La Lb:List Sp) (d:Int) (h0:0≤d) (h1:d≤1048576):opP 0 La Lb d=(aK La d||aK Lb d):=by
 unfold opP opB;rw[if_pos rfl,mh La d h0 h1,mh Lb d h0 h1]
theorem op1 (La Lb:List Sp) (d:Int) (h0:0≤d) (h1:d≤1048576):opP 1 La Lb d=(aK La d&&aK Lb d):=by
 unfold opP opB;rw[if_neg (by omega),if_pos rfl,mh La d h0 h1,mh Lb d h0 h1]
theorem yZ (d t:Int) (h0:0≤d):aK [(0,t)] d=decide (d < t):=by simp[aK,h0]
theorem oU (d t:Int) (h1:d≤1048576):aK [(t,1048577)] d=!decide (d < t):=by
 rw[Bool.eq_iff_iff];simp[aK];omega
end Go.Proofs.YtfjibfdelbodjaaGreat.Rm
