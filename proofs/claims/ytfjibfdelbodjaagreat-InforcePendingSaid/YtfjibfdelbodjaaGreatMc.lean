/-
  The plain mathematics of Normalize: cutting spans to the valid days, and joining a list that is in the order of the beginnings. The contract of Normalize.
-/
import Derived.Test.YtfjibfdelbodjaaGreatSort
namespace Go.Proofs.YtfjibfdelbodjaaGreat
open Spans
theorem iG:∀(L:List Sp) (d:Int),aK L d=true↔∃s∈L,s.1≤d∧d < s.2
 |[],d=>by simp[aK]
 |s::r,d=>by
  rw[aK,Bool.or_eq_true,iG r d,decide_eq_true_eq]
  constructor
  ·rintro (h|⟨x,hx,h⟩)
   ·exact⟨s,by simp,h⟩
   ·exact⟨x,by simp[hx],h⟩
  ·rintro⟨x,hx,h⟩
   rcases List.mem_cons.1 hx with rfl|hx
   ·exact Or.inl h
   ·exact Or.inr ⟨x,hx,h⟩
theorem K3 {a b:List Sp} (h:a.Perm b) (d:Int):aK a d=aK b d:=by
 rw[Bool.eq_iff_iff,iG,iG]
 exact⟨fun ⟨s,hs,hd⟩=>⟨s,h.mem_iff.1 hs,hd⟩,fun ⟨s,hs,hd⟩=>⟨s,h.mem_iff.2 hs,hd⟩⟩
def iM (s:Sp):Sp:=(max s.1 0,min s.2 1048577)
def partsOf (L:List Sp):List Sp:=(L.map iM).filter fun s=>decide (s.1 < s.2)
theorem jq (L:List Sp) (k:Nat) (hk:k < L.length):L.take (k+1)=L.take k++[(fr L k,to L k)]:=by
 rw[List.take_succ_eq_append_getElem hk]
 congr 2
 unfold fr to
 rw[List.getD,List.getElem?_eq_getElem hk]
 rfl
theorem Ii (L:List Sp) (k:Nat) (hk:k < L.length) (h:max (fr L k) 0 < min (to L k) 1048577):partsOf (L.take (k+1))=partsOf (L.take k)++[(max (fr L k) 0,min (to L k) 1048577)]:=by
 rw[jq L k hk]
 unfold partsOf
 rw[List.map_append,List.filter_append]
 congr 1
 simp[iM]
 omega
theorem G9 (L:List Sp) (k:Nat) (hk:k < L.length) (h:¬max (fr L k) 0 < min (to L k) 1048577):partsOf (L.take (k+1))=partsOf (L.take k):=by
 rw[jq L k hk]
 unfold partsOf
 rw[List.map_append,List.filter_append]
 have:List.filter (fun s:Sp=>decide (s.1 < s.2)) (List.map iM [(fr L k,to L k)])=[]:=by
  simp[iM]
  omega
 rw[this,List.append_nil]
theorem K5 (L:List Sp):(partsOf L).length≤L.length:=by
 unfold partsOf
 have:=List.length_filter_le (fun s:Sp=>decide (s.1 < s.2)) (L.map iM)
 simpa using this
theorem NQ (L:List Sp):∀s∈partsOf L,0≤s.1∧s.1 < s.2∧s.2≤1048577:=by
 intro s hs
 unfold partsOf at hs
 rw[List.mem_filter,List.mem_map]at hs
 obtain⟨⟨x,_,rfl⟩,h⟩:=hs
 have h':(iM x).1 < (iM x).2:=by simpa using h
 unfold iM at h' ⊢
 simp only at h' ⊢
 omega
theorem K9 (L:List Sp) (d:Int) (h0:0≤d) (h1:d≤1048576):aK (partsOf L) d=aK L d:=by
 rw[Bool.eq_iff_iff,iG,iG]
 constructor
 ·rintro⟨s,hs,hd⟩
  unfold partsOf at hs
  rw[List.mem_filter,List.mem_map]at hs
  obtain⟨⟨x,hx,rfl⟩,_⟩:=hs
  refine⟨x,hx,?_⟩
  unfold iM at hd
  simp only at hd
  omega
 ·rintro⟨x,hx,hd⟩
  refine⟨iM x,?_,?_⟩
  ·unfold partsOf
   rw[List.mem_filter,List.mem_map]
   refine⟨⟨x,hx,rfl⟩,?_⟩
   unfold iM
   simp only[decide_eq_true_eq]
   omega
  ·unfold iM
   simp only
   omega
def gG (P:List Sp):List Sp:=P.foldl apS []
theorem xB (P:List Sp) (s:Sp):gG (P++[s])=apS (gG P) s:=by simp[gG]
theorem Ny (P:List Sp) (k:Nat) (hk:k < P.length):(fr P k,to P k)∈P:=by
 unfold fr to
 rw[List.getD,List.getElem?_eq_getElem hk]
 exact List.getElem_mem hk
theorem Jy (P:List Sp) (ho:Ord P) (hv:∀s∈P,0≤s.1∧s.1 < s.2∧s.2≤1048577):∀k,k≤P.length→
  gJ (-1) (gG (P.take k))∧(∀d,aK (gG (P.take k)) d=aK (P.take k) d)∧(0 < k→tH (gG (P.take k)) (fr P (k - 1)))
 |0,_=>⟨trivial,fun d=>rfl,fun h=>absurd h (by omega)⟩
 |k+1,hk=>by
  obtain⟨h1,h2,h3⟩:=Jy P ho hv k (by omega)
  have hkl:k < P.length:=by omega
  obtain⟨v1,v2,v3⟩:=hv _ (Ny P k hkl)
  have hl:tH (gG (P.take k)) (fr P k):=by
   intro x hx
   by_cases h0:k=0
   ·subst h0
    simp[gG]at hx
   ·have:=h3 (by omega) x hx
    have:=ho (k - 1) k (by omega) hkl
    omega
  rw[jq P k hkl,xB]
  obtain⟨a1,a2,a3⟩:=Cq (gG (P.take k)) (fr P k,to P k) h1 hl v1 v2 v3
  exact⟨a1,fun d=>by rw[a2,nS,h2],fun _=>a3⟩
theorem oP (L:List Sp) (s:Sp):(apS L s).length≤L.length+1:=by
 rcases List.eq_nil_or_concat L with rfl|⟨K,x,rfl⟩
 ·simp[qm]
 ·rw[List.concat_eq_append,kN]
  split<;>simp
theorem FW:∀(P:List Sp) (R:List Sp),(P.foldl apS R).length≤R.length+P.length
 |[],R=>by simp
 |s::P,R=>by
  have:=FW P (apS R s)
  have:=oP R s
  simp only[List.foldl_cons,List.length_cons]
  omega
theorem Kk (P:List Sp):(gG P).length≤P.length:=by
 have:=FW P []
 simpa[gG]using this
theorem Ql (L P:List Sp) (hp:P.Perm (partsOf L)) (ho:Ord P):Is (gG P) (aK L):=by
 obtain⟨h1,h2,_⟩:=Jy P ho (fun s hs=>NQ L s (hp.mem_iff.1 hs)) P.length (Nat.le_refl _)
 rw[List.take_length]at h1 h2
 exact⟨h1,fun d d0 d1=>by rw[h2,K3 hp,K9 L d d0 d1]⟩
end Go.Proofs.YtfjibfdelbodjaaGreat
namespace Go.Proofs.YtfjibfdelbodjaaGreat
open Go.RowKit (wrap32 wrap64 intOf Hid Below)
open Spans
theorem Qs (w:World) (o1:Obj) (f t:Int) (ty:TypeId) (j:Nat) (u:Value) (h:[Value.int .i64 f,.int .i64 t][j]?=some u) :
  ((w.alloc o1).alloc (.cells #[.int .i64 f,.int .i64 t] ty)).cell? ((⟨w.heap.size+1,0,none⟩:Addr).add j)=some u:=new2 w o1 0 f t ty j u h
theorem Ml (w:World) (o1 o2:Obj):Below w.heap.size w ((w.alloc o1).alloc o2):=bl2 w o1 o2 0
theorem JE {w:World} {base e size n c:Nat} {A:Option Addr} {xs:List Value} (h:w.ownsRow base e size (.slice A n c) n xs):n≤c:=by
 rcases h.2 with ⟨h1,h2⟩|⟨g,cap,cur,h1,_,_,h4,_⟩
 ·omega
 ·injection h1 with _ _ h5
  omega
theorem Jk {w:World} {base e size n c:Nat} {A:Option Addr} {xs:List Value} (h:w.ownsRow base e size (.slice A n c) n xs):c≤maxLen:=by
 rcases h.2 with ⟨h1,h2⟩|⟨g,cap,cur,h1,_,_,_,h4,_⟩
 ·injection h1 with _ _ h5
  rw[h5];exact Nat.zero_le _
 ·injection h1 with _ _ h5
  rw[h5];exact h4
def sN (B:Nat) (A:Option Addr):Prop:=∀ad,A=some ad→B≤ad.block
theorem sN.mono {B B':Nat} {A:Option Addr} (h:sN B A) (hB:B'≤B):sN B' A:=fun ad e=>Nat.le_trans hB (h ad e)
theorem zy {w:World} {base e size n c:Nat} {A:Option Addr} {xs:List Value} (h:w.ownsRow base e size (.slice A n c) n xs):sN base A:=fun ad e0=>by
 subst e0
 exact (h.lt ad.block rfl).1
def lK (B:Nat) (P:Int→Bool) (e:Ending) (w':World):Prop:=∃(A':Option Addr) (n' c':Nat) (R:List Sp),e=.returned (.slice A' n' c')∧Is R P∧aX w'.heap.size w' A' n' R∧(n'≤c'∧c'≤maxLen∧sN B A')∧n'≤2000000
theorem Ms (base n c:Nat) (A:Option Addr) (P:List Sp) (w:World) (hP:P.length=n) (hn:n≤10000000) (hown:w.ownsRow base 78 2 (.slice A n c) n (cells P)) :
  Calls Tryz.prog 95 #[.slice A n c,.func (.func 96) #[] #[]] w fun e w'=>e=.returned (.tuple #[])∧(∃P':List Sp,P'.Perm P∧Ord P'∧aX w'.heap.size w' A n P')∧Below base w w':=by
 rcases Nat.eq_zero_or_pos n with h0|h0
 ·subst h0
  refine (LQ A c w).mono fun e w' ⟨he,hw⟩=>⟨he,⟨P,List.Perm.refl _,fun i j _ hj=>absurd hj (by omega),hP,fun h=>absurd h (by omega)⟩,by rw[hw];exact Below.refl _ _⟩
 ·have hA:∃g,A=some ⟨g,0,none⟩:=by
   rcases hown.2 with ⟨h,h2⟩|⟨g,cap,cur,h,_⟩
   ·omega
   ·injection h with h;exact⟨g,h⟩
  obtain⟨g,rfl⟩:=hA
  subst hP
  exact KA base g c P w hn hown
set_option maxHeartbeats 2000000 in
set_option maxRecDepth 1000000 in
theorem wX (L:List Sp) (N c:Nat) (A:Option Addr) (w:World) (hz:aX w.heap.size w A N L) (hN:N≤2000000) :
  Calls Tryz.prog 70 #[.slice A N c] w fun e w'=>lK w.heap.size (aK L) e w'∧Below w.heap.size w w':=by
 obtain⟨i0,hi,hz0,hz1,hz2⟩:=info_parts GY
 have HL:=Lib.hid hz.1
 go_enter Tryz.func70,Tryz.ntmps70
 go_wp2
 go_loopw [3,11] (fun v i wr=>∃(k n cc:Nat) (Av:Option Addr),k≤N∧i=.int .i64 k∧v=.slice Av n cc∧n=(partsOf (L.take k)).length∧wr.ownsRow w.heap.size 78 2 (.slice Av n cc) n (cells (partsOf (L.take k)))∧Below w.heap.size w wr) (fun _ i _=>N - (intOf i).toNat)
 case atStart=>exact⟨0,0,0,none,Nat.zero_le _,rfl,rfl,rfl,World.ownsRow_nil _ _ _ _,Below.refl _ _⟩
 case round=>
  obtain⟨k,n,cc,Av,hk,rfl,rfl,hn,hown,hb⟩:=hrel
  have HN:=Lib.hid hn
  have hn1:n≤2000000:=by
   have h1:=K5 (L.take k)
   rw[List.length_take]at h1
   omega
  have hbz:=hb.size
  clear hn
  by_cases hlt:k < N
  ·obtain⟨b,off,rfl,hB,h1,h2⟩:=hz.cells hb hlt
   by_cases hv:max (fr L k) 0 < min (to L k) 1048577
   ·have HP:=Lib.hid (Ii L k (by have:=HL.out;omega) hv)
    have HO:Hid (∀W,Below wr.heap.size wr W→W.ownsRow w.heap.size 78 2 (.slice Av n cc) n (cells (partsOf (L.take k)))):=Lib.hid fun W h=>own_below hown h
    have hlo:=fun g h=>(hown.lt g h).1
    have HLO:=Lib.hid hlo
    clear hown hz hlo
    go_wp2_with (at_builtin;refine wpList_append_own _ rfl _ _ 26 rfl w.heap.size 78 i0 (.agg #[.int .i64 0,.int .i64 0]) 2 16 Tryz.underlying26 hi hz0 hz1 hz2 rfl (by decide) _ _ _ rfl (HO.out _ (Ml wr _ _)) ⟨wr.heap.size+1,0,none⟩ 1 1 [.int .i64 (max (fr L k) 0),.int .i64 (min (to L k) 1048577)] rfl rfl ?c1 ?c2 ?c3 ?c4 ?c5 ?_)
    case c1=>exact fun j u hj=>Qs wr _ _ _ _ j u hj
    case c2=>intro u hu;simp at hu;rcases hu with rfl|rfl<;>rfl
    case c3=>unfold maxLen;omega
    case c4=>omega
    case c5=>simp;omega
    intro v' w1 hown' hgrow _
    have hbw:Below w.heap.size w w1:=Below.grown (hb.trans ((Ml wr _ _).mono hbz)) hgrow (by simp;omega) (fun k hk=>HLO.out k hk)
    have hsl:∃A2 c2,v'=.slice A2 (n+1) c2:=by
     rcases hown'.2 with ⟨_,h⟩|⟨g,cap,cur,rfl,_⟩
     ·omega
     ·exact⟨_,_,rfl⟩
    obtain⟨A2,c2,rfl⟩:=hsl
    have HV:=Lib.hid hown'
    clear hgrow hown'
    go_wp2
    go_roundw
    case rel=>exact⟨k+1,n+1,c2,A2,by omega,by go_num,rfl,by rw[HP.out,List.length_append,←HN.out];rfl,by rw[HP.out,jm];exact HV.out,hbw⟩
    case measure=>simp[intOf];omega
   ·have HP:=Lib.hid (G9 L k (by have:=HL.out;omega) hv)
    have HO:=Lib.hid (own_below hown ((Below.refl wr.heap.size wr).alloc (Nat.le_refl _) (.cells #[.int .i64 (max (fr L k) 0),.int .i64 (min (to L k) 1048577)] 78)))
    clear hown hz
    go_wp2
    go_roundw
    case rel=>exact⟨k+1,n,cc,Av,by omega,by go_num,rfl,by rw[HP.out];exact HN.out,by rw[HP.out];exact HO.out,hb.alloc hbz _⟩
    case measure=>simp[intOf];omega
  ·obtain rfl:k=N:=by omega
   have eL:L.take k=L:=List.take_of_length_le (by have:=HL.out;omega)
   rw[eL]at hown HN
   have HSO:Hid (Calls Tryz.prog 95 #[.slice Av n cc,.func (.func 96) #[] #[]] wr fun e w'=>e=.returned (.tuple #[])∧(∃P':List Sp,P'.Perm (partsOf L)∧Ord P'∧aX w'.heap.size w' Av n P')∧Below w.heap.size wr w'):=Lib.hid (Ms w.heap.size n cc Av (partsOf L) wr HN.out.symm (by omega) hown)
   clear eL hown hz
   go_wp2_with (go_at_call 95;refine (HSO.out).mono ?_;rintro e w2 ⟨rfl,⟨P',hp,ho,hz2⟩,hb2⟩)
   have HP:=Lib.hid hp
   have HOD:=Lib.hid ho
   have HPL:=Lib.hid hz2.1
   have hbw2:Below w.heap.size w w2:=hb.trans hb2
   clear hp ho HSO
   go_wp2
   go_loopw [6,36] (fun v i wr=>∃(j m c3:Nat) (Ao:Option Addr),j≤n∧i=.int .i64 j∧v=.slice Ao m c3∧m=(gG (P'.take j)).length∧wr.ownsRow w2.heap.size 78 2 (.slice Ao m c3) m (cells (gG (P'.take j)))∧Below w2.heap.size w2 wr) (fun _ i _=>n - (intOf i).toNat)
   case atStart=>exact⟨0,0,0,none,Nat.zero_le _,rfl,rfl,rfl,World.ownsRow_nil _ _ _ _,Below.refl _ _⟩
   case round=>
    obtain⟨j,m,c3,Ao,hj,rfl,rfl,hm,hown,hb3⟩:=hrel
    have HM:=Lib.hid hm
    have hm1:m≤2000000:=by
     have h1:=Kk (P'.take j)
     rw[List.length_take]at h1
     have:=HPL.out
     omega
    have hbz3:=hb3.size
    clear hm
    by_cases hlt:j < n
    ·obtain⟨b,off,rfl,hB,h1,h2⟩:=hz2.cells hb3 hlt
     have HT:=Lib.hid (jq P' j (by have:=HPL.out;omega))
     have HA:Hid (∀W,Below wr.heap.size wr W→Calls Tryz.prog 98 #[.slice Ao m c3,.agg #[.int .i64 (fr P' j),.int .i64 (to P' j)]] W fun e w'=>(∃A' n' c',e=.returned (.slice A' n' c')∧n'=(gG (P'.take (j+1))).length∧w'.ownsRow w2.heap.size 78 2 (.slice A' n' c') n' (cells (gG (P'.take (j+1)))))∧Below w2.heap.size W w'):=Lib.hid fun W h=>by
      rw[HT.out,xB]
      exact yj w2.heap.size m c3 Ao (gG (P'.take j)) (fr P' j,to P' j) W HM.out.symm (by omega) (own_below hown h) (Nat.le_trans hbz3 h.size)
     have hb4:∀o,Below wr.heap.size wr (wr.alloc o):=fun o=>(Below.refl _ _).alloc (Nat.le_refl _) o
     clear hown hz2
     go_wp2_with (go_at_call 98;refine (HA.out _ (hb4 _)).mono ?_;rintro e w3 ⟨⟨A',n',c',rfl,hn',hown'⟩,hb5⟩;have HV:=Lib.hid hown';have HV2:=Lib.hid hn';have hb6:=hb3.trans (((hb4 _).mono hbz3).trans hb5);clear hown' hn' hb5)
     go_roundw
     case rel=>exact⟨j+1,n',c',A',by omega,by go_num,rfl,HV2.out,HV.out,hb6⟩
     case measure=>simp[intOf];omega
    ·obtain rfl:j=n:=by omega
     have eP:P'.take j=P':=List.take_of_length_le (by have:=HPL.out;omega)
     rw[eP]at hown HM
     have HF:Hid (aX wr.heap.size wr Ao m (gG P')):=Lib.hid (qb hown)
     have hcap:=And.intro (JE hown) (And.intro (Jk hown) ((zy hown).mono hbw2.size))
     clear hown eP
     go_wp2
     go_ret
     exact⟨⟨Ao,m,c3,gG P',rfl,Ql L P' HP.out HOD.out,HF.out,hcap,hm1⟩,hbw2.trans (hb3.mono hbw2.size)⟩
end Go.Proofs.YtfjibfdelbodjaaGreat
