/-
  The contract of advance. The contract of the merge loop, and of Union, Intersect and Subtract. The contracts of Union, Intersect, Subtract, Truncate and ExtendFrom.
-/
import Derived.Test.YtfjibfdelbodjaaGreatMc
namespace Go.Proofs.YtfjibfdelbodjaaGreat
open Go.RowKit (wrap32 wrap64 intOf Hid Below)
open Spans
theorem aX.drewN {B:Nat} {w:World} {A:Option Addr} {n:Nat} {L:List Sp} (h:aX B w A n L) (q:Nat):aX B (w.drewN q) A n L:=h
theorem aX.tail {B:Nat} {w:World} {b off n:Nat} {s:Sp} {L:List Sp} (h:aX B w (some ⟨b,off,none⟩) (n+1) (s::L)):aX B w (some ⟨b,off+2,none⟩) n L:=by
 refine⟨by have:=h.1;simpa using this,fun hn=>?_⟩
 obtain⟨b',off',e,hlt,hc⟩:=h.2 (by omega)
 injection e with e
 injection e with e1 e2
 subst e1 e2
 refine⟨b,off+2,rfl,hlt,fun k hk=>?_⟩
 have:=hc (k+1) (by omega)
 rw[show off+(k+1)*2=off+2+k*2 by omega]at this
 exact this
def Tx (L:List Sp) (d:Int) (R:List Sp) (b:Bool) (e:Int):Prop:=
 (∃lo,gJ lo R)∧(∀x,d≤x→aK R x=aK L x)∧d < e∧e≤1048577∧∀x,d≤x→x < e→aK L x=b
def RF (L:List Sp) (B n:Nat) (d:Int) (w:World) (ee:Ending):Prop:=∃(A':Option Addr) (n' c':Nat) (R:List Sp) (b:Bool) (e:Int),ee=.returned (.tuple #[.slice A' n' c',.bool b,.int .i64 e])∧Tx L d R b e∧aX B w A' n' R∧n'≤c'∧n'≤n
set_option maxHeartbeats 1000000 in
set_option maxRecDepth 100000 in
theorem PD (L:List Sp) (B n c:Nat) (A:Option Addr) (d lo:Int) (w:World) (hz:aX B w A n L) (hs:gJ lo L) (hn:n≤10000000) (hc:n≤c) (hd:d < 1048577) :
  Calls Tryz.prog 208 #[.slice A n c,.int .i64 d] w fun ee w'=>RF L B n d w ee∧∃q,w'=w.drewN q:=by
 go_enter Tryz.func208,Tryz.ntmps208
 go_wp2
 go_loop [0] (fun v=>∃(m cc:Nat) (Av:Option Addr) (R:List Sp) (lo':Int),v=.slice Av m cc∧m≤n∧m≤cc∧aX B w Av m R∧gJ lo' R∧∀x,d≤x→aK R x=aK L x) (fun v=>match v with|.slice _ m _=>m|_=>0)
 case atStart=>exact⟨n,c,A,L,lo,rfl,Nat.le_refl _,hc,hz,hs,fun _ _=>rfl⟩
 case round=>
  obtain⟨m,cc,Av,R,lo',rfl,hm,hcc,hz',hs',hmem⟩:=hrel
  have HM:=Lib.hid hmem
  have HS:=Lib.hid hs'
  clear hmem hs'
  rcases Nat.eq_zero_or_pos m with h0|h0
  ·subst h0
   obtain rfl:R=[]:=List.eq_nil_of_length_eq_zero hz'.1
   go_wp2
   go_ret3
   exact⟨⟨none,0,0,[],false,1048577,rfl,⟨⟨lo',trivial⟩,HM.out,hd,by omega,fun x hx _=>(HM.out x hx).symm⟩,⟨rfl,fun h=>absurd h (by omega)⟩,Nat.le_refl _,Nat.zero_le _⟩,0,rfl⟩
  ·obtain⟨k,rfl⟩:∃k,m=k+1:=⟨m - 1,by omega⟩
   obtain⟨s,R',rfl⟩:∃s R',R=s::R':=by
    cases R with
    |nil=>have:=hz'.1;simp at this
    |cons s R'=>exact⟨s,R',rfl⟩
   obtain⟨b,off,rfl,hB,h1,h2⟩:=hz'.cells (Below.refl _ _) h0
   have c1:w.cell? ⟨b,off,none⟩=some (.int .i64 s.1):=by rw[Nat.zero_mul,Nat.add_zero]at h1;exact h1
   have c2:w.cell? ⟨b,off+1,none⟩=some (.int .i64 s.2):=by rw[Nat.zero_mul,Nat.add_zero]at h2;exact h2
   have HT:=Lib.hid hz'.tail
   have HZ:=Lib.hid hz'
   obtain⟨s1,s2,s3,s4⟩:=HS.out
   have HS4:=Lib.hid s4
   clear h1 h2 hz' hz hs s4
   by_cases hle:s.2≤d
   ·have HN:Hid (∀x,d≤x→aK R' x=aK L x):=Lib.hid fun x hx=>by rw[←HM.out x hx,iF x (Or.inr (by omega))]
    by_cases hc1:cc=1
    ·subst hc1
     obtain rfl:k=0:=by omega
     go_wp2
     go_round
     case rel=>exact⟨0,0,_,R',s.2,rfl,by omega,by omega,⟨HT.out.1,fun h=>absurd h (by omega)⟩,HS4.out,HN.out⟩
     case measure=>simp
    ·go_wp2
     go_round
     case rel=>exact⟨k,cc - 1,_,R',s.2,rfl,by omega,by omega,HT.out,HS4.out,HN.out⟩
     case measure=>simp
   ·by_cases hin:s.1≤d
    ·go_wp2
     go_quiet (fail)
     go_wp2
     go_ret3
     exact⟨⟨_,_,_,s::R',true,s.2,rfl,⟨⟨lo',HS.out⟩,HM.out,by omega,by omega,fun x hx hx2=>by rw[←HM.out x hx,jQ x (by omega) hx2]⟩,HZ.out,hcc,hm⟩,_,rfl⟩
    ·go_wp2
     go_quiet (fail)
     go_wp2
     go_ret3
     exact⟨⟨_,_,_,s::R',false,s.1,rfl,⟨⟨lo',HS.out⟩,HM.out,by omega,by omega,fun x hx hx2=>by rw[←HM.out x hx,iF x (Or.inl hx2),ko R' s.2 x HS4.out (by omega)]⟩,HZ.out,hcc,hm⟩,_,rfl⟩
end Go.Proofs.YtfjibfdelbodjaaGreat
namespace Go.Proofs.YtfjibfdelbodjaaGreat
open Go.RowKit (wrap32 wrap64 intOf Hid Below)
open Spans
def Left (B:Nat) (w:World) (R:List Sp) (d:Int) (v:Value):Prop:=∃(A:Option Addr) (n c:Nat) (L:List Sp) (lo:Int),v=.slice A n c∧aX B w A n L∧n≤c∧n≤10000000∧gJ lo L∧∀x,d≤x→aK L x=aK R x
theorem Left.below {B:Nat} {w w':World} {R:List Sp} {d:Int} {v:Value} (h:Left B w R d v) (hb:Below B w w'):Left B w' R d v:=by
 obtain⟨A,n,c,L,lo,rfl,h1,h2⟩:=h
 exact⟨A,n,c,L,lo,rfl,h1.below hb,h2⟩
theorem Left.start {B:Nat} {w:World} {R:List Sp} {A:Option Addr} {n c:Nat} (h:aX B w A n R) (hs:gJ (-1) R) (hc:n≤c) (hn:n≤10000000):Left B w R 0 (.slice A n c):=
 ⟨A,n,c,R,-1,rfl,h,hc,hn,hs,fun _ _=>rfl⟩
def Done (op:Bool→Bool→Bool) (RA RB:List Sp) (B:Nat) (w:World) (d:Int) (v:Value):Prop:=
 ∃(A:Option Addr) (n c:Nat) (O:List Sp),v=.slice A n c∧O.length=n∧w.ownsRow B 78 2 (.slice A n c) n (cells O)∧gJ (-1) O∧tH O d∧(n:Int)≤d∧∀x,0≤x→aK O x=(decide (x < d)&&op (aK RA x) (aK RB x))
def Tw (op:Bool→Bool→Bool) (RA RB:List Sp) (B:Nat) (w0:World) (v0 v1 v7 v8:Value) (w:World):Prop:=
 ∃d:Int,v8=.int .i64 d∧0≤d∧d≤1048577∧Left B w RA d v0∧Left B w RB d v1∧Done op RA RB B w d v7∧Below B w0 w∧B≤w.heap.size
def Qj (B:Nat) (R:List Sp) (d:Int) (w:World) (ee:Ending):Prop:=∃(v:Value) (b:Bool) (e:Int),ee=.returned (.tuple #[v,.bool b,.int .i64 e])∧Left B w R e v∧d < e∧e≤1048577∧(∀x,d≤x→x < e→aK R x=b)∧∀e',d≤e'→Left B w R e' v
theorem Eh (B:Nat) (R:List Sp) (d:Int) (v:Value) (w:World) (h:Left B w R d v) (hd:d < 1048577) :
  Calls Tryz.prog 208 #[v,.int .i64 d] w fun ee w'=>Qj B R d w ee∧∃q,w'=w.drewN q:=by
 obtain⟨A,n,c,L,lo,rfl,h1,h2,h3,h4,h5⟩:=h
 refine (PD L B n c A d lo w h1 h4 h3 h2 hd).mono fun ee w' ⟨⟨A',n',c',R',b,e,he,⟨⟨lo',a1⟩,a2,a3,a4,a5⟩,a6,a7,a8⟩,hw⟩=>⟨⟨_,b,e,he,?_,a3,a4,?_,?_⟩,hw⟩
 ·exact⟨A',n',c',R',lo',rfl,a6,a7,by omega,a1,fun x hx=>by rw[a2 x (by omega),h5 x (by omega)]⟩
 ·intro x hx hx2
  rw[←h5 x hx]
  exact a5 x hx hx2
 ·exact fun e' he'=>⟨A',n',c',R',lo',rfl,a6,a7,by omega,a1,fun x hx=>by rw[a2 x (by omega),h5 x (by omega)]⟩
theorem KG (op:Bool→Bool→Bool) (RA RB:List Sp) (B:Nat) (w W:World) (d e:Int) (v:Value) (h:Done op RA RB B w d v) (hb:Below w.heap.size w W) (hB:B≤w.heap.size) (h0:0≤d) (hde:d < e) (he:e≤1048577) (hk:∀x,d≤x→x < e→op (aK RA x) (aK RB x)=true) :
  Calls Tryz.prog 98 #[v,.agg #[.int .i64 d,.int .i64 e]] W fun ee w'=>(∃v',ee=.returned v'∧Done op RA RB B w' e v')∧Below B W w':=by
 obtain⟨A,n,c,O,rfl,hO,hown,hs,hl,hn,hm⟩:=h
 have hown':=own_below hown hb
 refine (yj B n c A O (d,e) W hO (by omega) hown' (Nat.le_trans hB hb.size)).mono fun ee w' ⟨⟨A',n',c',he1,hn',ho'⟩,hbw⟩=>⟨⟨_,he1,A',n',c',apS O (d,e),rfl,hn'.symm,ho',?_⟩,hbw⟩
 obtain⟨a1,a2,a3⟩:=Cq O (d,e) hs hl h0 hde he
 have hlen:=oP O (d,e)
 refine⟨a1,fun y hy=>by have:=a3 y hy;simp only at this;omega,by omega,fun x hx=>?_⟩
 rw[a2,hm x hx]
 simp only[aK,Bool.or_false]
 by_cases h1:x < d
 ·have e1:decide (x < d)=true:=by simpa using h1
  have e2:decide (x < e)=true:=by simp;omega
  have e3:decide (d≤x∧x < e)=false:=by simp;omega
  rw[e1,e2,e3,Bool.or_false]
 ·have e1:decide (x < d)=false:=by simpa using h1
  rw[e1,Bool.false_and,Bool.false_or]
  by_cases h2:x < e
  ·have e2:decide (x < e)=true:=by simpa using h2
   have e3:decide (d≤x∧x < e)=true:=by simp;omega
   rw[e2,e3,hk x (by omega) h2,Bool.true_and]
  ·have e2:decide (x < e)=false:=by simpa using h2
   have e3:decide (d≤x∧x < e)=false:=by simp;omega
   rw[e2,e3,Bool.false_and]
theorem KD (op:Bool→Bool→Bool) (RA RB:List Sp) (B:Nat) (w W:World) (d e:Int) (v:Value) (h:Done op RA RB B w d v) (hb:Below w.heap.size w W) (hde:d < e) (hk:∀x,d≤x→x < e→op (aK RA x) (aK RB x)=false):Done op RA RB B W e v:=by
 obtain⟨A,n,c,O,rfl,hO,hown,hs,hl,hn,hm⟩:=h
 refine⟨A,n,c,O,rfl,hO,own_below hown hb,hs,fun y hy=>by have:=hl y hy;omega,by omega,fun x hx=>?_⟩
 rw[hm x hx]
 by_cases h1:x < d
 ·have e1:decide (x < d)=true:=by simpa using h1
  have e2:decide (x < e)=true:=by simp;omega
  rw[e1,e2]
 ·have e1:decide (x < d)=false:=by simpa using h1
  rw[e1,Bool.false_and]
  by_cases h2:x < e
  ·rw[hk x (by omega) h2,Bool.and_false]
  ·have e2:decide (x < e)=false:=by simpa using h2
   rw[e2,Bool.false_and]
theorem Mx (op:Bool→Bool→Bool) (RA RB:List Sp) (B:Nat) (w:World) (v:Value) (h:Done op RA RB B w 1048577 v) :
  ∃(A:Option Addr) (n c:Nat) (O:List Sp),v=.slice A n c∧Is O (fun x=>op (aK RA x) (aK RB x))∧aX w.heap.size w A n O∧(n≤c∧c≤maxLen∧sN B A)∧n≤2000000:=by
 obtain⟨A,n,c,O,rfl,hO,hown,hs,hl,hn,hm⟩:=h
 refine⟨A,n,c,O,rfl,⟨hs,fun x h0 h1=>?_⟩,qb hown,⟨JE hown,Jk hown,zy hown⟩,by omega⟩
 rw[hm x h0]
 have:decide (x < 1048577)=true:=by simp;omega
 rw[this,Bool.true_and]
set_option maxHeartbeats 1000000 in
set_option maxRecDepth 1000000 in
theorem zi (g:Nat) (op:Bool→Bool→Bool) (La Lb:List Sp) (N M ca cb:Nat) (Aa Ab:Option Addr) (w:World) (hza:aX w.heap.size w Aa N La) (hzb:aX w.heap.size w Ab M Lb) (hN:N≤2000000) (hM:M≤2000000)
  (eg:∀args w,(callFunc g args).run Tryz.prog w=.ok (.enter g args) w) (hk:∀x y W,Calls Tryz.prog g #[.bool x,.bool y] W fun e w'=>e=.returned (.bool (op x y))∧w'=W) :
  Calls Tryz.prog 204 #[.slice Aa N ca,.slice Ab M cb,.func (.func g) #[] #[]] w fun e w'=>lK w.heap.size (fun x=>op (aK La x) (aK Lb x)) e w'∧Below w.heap.size w w':=by
 have HK:=Lib.hid hk
 have HA:Hid (∀W,Below w.heap.size w W→Calls Tryz.prog 70 #[.slice Aa N ca] W fun e w'=>lK W.heap.size (aK La) e w'∧Below W.heap.size W w'):=Lib.hid fun W h=>wX La N ca Aa W ((hza.below h).mono h.size) hN
 have HB:Hid (∀W,Below w.heap.size w W→Calls Tryz.prog 70 #[.slice Ab M cb] W fun e w'=>lK W.heap.size (aK Lb) e w'∧Below W.heap.size W w'):=Lib.hid fun W h=>wX Lb M cb Ab W ((hzb.below h).mono h.size) hM
 clear hk hza hzb
 go_enter Tryz.func204,Tryz.ntmps204
 go_wp2_with (first
  |(go_at_call 70;((with_reducible refine (HA.out _ (Below.refl _ _)).mono ?_);rintro e w1 ⟨⟨A1,n1,c1,RA,rfl,ra1,ra2,ra3,ra4⟩,hb1⟩;have RA1:=Lib.hid ra1;have RA2:=Lib.hid ra2;clear ra1 ra2))
  |(go_at_call 70;((with_reducible refine (HB.out _ hb1).mono ?_);rintro e w2 ⟨⟨A2,n2,c2,RB,rfl,rb1,rb2,rb3,rb4⟩,hb2⟩;have RB1:=Lib.hid rb1;have RB2:=Lib.hid rb2;clear rb1 rb2)))
 have hs0:Tw op RA RB w2.heap.size w2 (.slice A1 n1 c1) (.slice A2 n2 c2) (.slice none 0 0) (.int .i64 0) w2:=
  ⟨0,rfl,by omega,by omega,Left.start ((RA2.out.below hb2).mono hb2.size) RA1.out.1 ra3.1 (by omega),Left.start RB2.out RB1.out.1 rb3.1 (by omega),
   ⟨none,0,0,[],rfl,rfl,World.ownsRow_nil _ _ _ _,trivial,fun x hx=>by simp at hx,by omega,fun x hx=>by
    have:decide (x < 0)=false:=by simp;omega
    rw[this];rfl⟩,Below.refl _ _,Nat.le_refl _⟩
 go_loopw [0,1,7,8] (fun v0 v1 v7 v8 wr=>Tw op RA RB w2.heap.size w2 v0 v1 v7 v8 wr) (fun _ _ _ v8 _=>(1048577 - intOf v8).toNat)
 case atStart=>exact hs0
 case round=>
  obtain⟨d,rfl,d0,d1,hla,hlb,hdo,hbw,hbz⟩:=hrel
  have HLA:=Lib.hid hla
  have HLB:=Lib.hid hlb
  have HDO:=Lib.hid hdo
  clear hs0 hla hlb hdo
  by_cases hd:d < 1048577
  ·clear HA HB
   go_wp2_with (first
    |(go_at_call 208;((with_reducible refine (Eh w2.heap.size RA d u0 wr HLA.out hd).mono ?_);rintro e wa ⟨⟨va,ba,ea,rfl,xa1,xa2,xa3,xa4,xa5⟩,hqa⟩;have XA4:=Lib.hid xa4;have XA5:=Lib.hid xa5;have HLB2:Hid (Left w2.heap.size wa RB d u1):=Lib.hid (by obtain⟨q,rfl⟩:=hqa;exact HLB.out);have HQA:=Lib.hid hqa;clear xa1 xa4 xa5 hqa))
    |(go_at_call 208;((with_reducible refine (Eh w2.heap.size RB d u1 wa HLB2.out hd).mono ?_);rintro e wb ⟨⟨vb,bb,eb,rfl,xb1,xb2,xb3,xb4,xb5⟩,hqb⟩;have XB4:=Lib.hid xb4;have XB5:=Lib.hid xb5;have HQB:=Lib.hid hqb;clear xb1 xb4 xb5 hqb)))
   refine (HK.out ba bb _).mono ?_
   have hbb:Below wr.heap.size wr wb:=by
    obtain⟨q,rfl⟩:=HQA.out
    obtain⟨r,rfl⟩:=HQB.out
    exact j4 (j4 (Below.refl _ _) q) r
   have hE:d < min ea eb∧min ea eb≤1048577:=by omega
   have hst:∀x,d≤x→x < min ea eb→op (aK RA x) (aK RB x)=op ba bb:=fun x h1 h2=>by rw[XA4.out x h1 (by omega),XB4.out x h1 (by omega)]
   have HST:=Lib.hid hst
   have hLA:Left w2.heap.size wr RA (min ea eb) va:=XA5.out _ (by omega)
   have hLB:Left w2.heap.size wr RB (min ea eb) vb:=by
    have:=XB5.out (min ea eb) (by omega)
    obtain⟨q,rfl⟩:=HQA.out
    exact this
   have HLA3:=Lib.hid hLA
   have HLB3:=Lib.hid hLB
   obtain⟨hE1,hE2⟩:=hE
   clear hst hLA hLB
   cases hop:op ba bb
   ·have HDD:Hid (Done op RA RB w2.heap.size wb (min ea eb) u7):=Lib.hid (KD op RA RB _ wr wb d (min ea eb) u7 HDO.out hbb hE1 (fun x h1 h2=>by rw[HST.out x h1 h2,hop]))
    have hsz:=hbb.size
    have hbw3:Below w2.heap.size w2 wb:=hbw.trans (hbb.mono hbz)
    have HH:Hid (Left w2.heap.size wb RA (min ea eb) va∧Left w2.heap.size wb RB (min ea eb) vb):=Lib.hid ⟨HLA3.out.below (hbb.mono hbz),HLB3.out.below (hbb.mono hbz)⟩
    clear hop
    rintro e wc ⟨rfl,rfl⟩
    go_wp2
    go_roundw
    case rel=>exact⟨_,rfl,by omega,hE2,HH.out.1,HH.out.2,HDD.out,hbw3,by omega⟩
    case measure=>simp[intOf];omega
   ·have HAP:Hid (Calls Tryz.prog 98 #[u7,.agg #[.int .i64 d,.int .i64 (min ea eb)]] wb fun ee w'=>(∃v',ee=.returned v'∧Done op RA RB w2.heap.size w' (min ea eb) v')∧Below w2.heap.size wb w'):=Lib.hid (KG op RA RB _ wr wb d (min ea eb) u7 HDO.out hbb hbz d0 hE1 hE2 (fun x h1 h2=>by rw[HST.out x h1 h2,hop]))
    have hsz:=hbb.size
    clear hop
    rintro e wc ⟨rfl,rfl⟩
    go_wp2_with (go_at_call 98;((with_reducible refine (HAP.out).mono ?_);rintro e wd ⟨⟨v',rfl,hdone⟩,hbd⟩;have HDN:=Lib.hid hdone;have hbd2:=(hbb.mono hbz).trans hbd;clear hdone))
    go_roundw
    case rel=>exact⟨_,rfl,by omega,hE2,HLA3.out.below hbd2,HLB3.out.below hbd2,HDN.out,hbw.trans hbd2,by have:=hbd2.size;omega⟩
    case measure=>simp[intOf];omega
  ·obtain rfl:d=1048577:=by omega
   obtain⟨A9,n9,c9,O9,rfl,q1,q2,q3,q4⟩:=Mx op RA RB _ wr u7 HDO.out
   have HQ1:=Lib.hid q1
   have HQ2:=Lib.hid q2
   clear q1 q2 HA HB
   go_wp2
   go_ret
   exact⟨⟨A9,n9,c9,O9,rfl,HQ1.out.congr fun x h0 h1=>by rw[RA1.out.2 x h0 h1,RB1.out.2 x h0 h1],HQ2.out,⟨q3.1,q3.2.1,q3.2.2.mono (by have h1:=hb1.size;have h2:=hb2.size;omega)⟩,q4⟩,hb1.trans ((hb2.trans (hbw.mono hb2.size)).mono hb1.size)⟩
end Go.Proofs.YtfjibfdelbodjaaGreat
namespace Go.Proofs.YtfjibfdelbodjaaGreat
open Go.RowKit (wrap32 wrap64 intOf Hid Below)
open Spans
theorem Ho (x y:Bool) (W:World):Calls Tryz.prog 205 #[.bool x,.bool y] W fun e w'=>e=.returned (.bool (x||y))∧w'=W:=by
 cases x<;>cases y
 all_goals
  go_enter Tryz.func205,Tryz.ntmps205
  go_wp2
  go_ret
  exact⟨rfl,rfl⟩
set_option maxHeartbeats 400000 in
theorem Lf (La Lb:List Sp) (N M ca cb:Nat) (Aa Ab:Option Addr) (w:World) (hza:aX w.heap.size w Aa N La) (hzb:aX w.heap.size w Ab M Lb) (hN:N≤2000000) (hM:M≤2000000) :
  Calls Tryz.prog 193 #[.slice Aa N ca,.slice Ab M cb] w fun e w'=>lK w.heap.size (fun d=>aK La d||aK Lb d) e w'∧Below w.heap.size w w':=by
 have HM:=Lib.hid (zi 205 (fun x y=>x||y) La Lb N M ca cb Aa Ab w hza hzb hN hM (enters_of Tryz.func205 (by kernel_rfl) rfl) Ho)
 clear hza hzb
 go_enter Tryz.func193,Tryz.ntmps193
 go_wp2_with (go_at_call 204;((with_reducible refine (HM.out).mono ?_);rintro e w1 ⟨⟨A9,n9,c9,R9,rfl,q1,q2,q3,q4⟩,hb⟩;have HQ:=Lib.hid (And.intro q1 q2);clear q1 q2))
 go_ret
 exact⟨⟨A9,n9,c9,R9,rfl,HQ.out.1,HQ.out.2,q3,q4⟩,hb⟩
theorem wD (x y:Bool) (W:World):Calls Tryz.prog 206 #[.bool x,.bool y] W fun e w'=>e=.returned (.bool (x&&y))∧w'=W:=by
 cases x<;>cases y
 all_goals
  go_enter Tryz.func206,Tryz.ntmps206
  go_wp2
  go_ret
  exact⟨rfl,rfl⟩
set_option maxHeartbeats 400000 in
theorem yP (La Lb:List Sp) (N M ca cb:Nat) (Aa Ab:Option Addr) (w:World) (hza:aX w.heap.size w Aa N La) (hzb:aX w.heap.size w Ab M Lb) (hN:N≤2000000) (hM:M≤2000000) :
  Calls Tryz.prog 196 #[.slice Aa N ca,.slice Ab M cb] w fun e w'=>lK w.heap.size (fun d=>aK La d&&aK Lb d) e w'∧Below w.heap.size w w':=by
 have HM:=Lib.hid (zi 206 (fun x y=>x&&y) La Lb N M ca cb Aa Ab w hza hzb hN hM (enters_of Tryz.func206 (by kernel_rfl) rfl) wD)
 clear hza hzb
 go_enter Tryz.func196,Tryz.ntmps196
 go_wp2_with (go_at_call 204;((with_reducible refine (HM.out).mono ?_);rintro e w1 ⟨⟨A9,n9,c9,R9,rfl,q1,q2,q3,q4⟩,hb⟩;have HQ:=Lib.hid (And.intro q1 q2);clear q1 q2))
 go_ret
 exact⟨⟨A9,n9,c9,R9,rfl,HQ.out.1,HQ.out.2,q3,q4⟩,hb⟩
theorem Fy (w:World) (f t:Int) (ty:TypeId):aX (w.alloc (.cells #[.int .i64 f,.int .i64 t] ty)).heap.size (w.alloc (.cells #[.int .i64 f,.int .i64 t] ty)) (some ⟨w.heap.size,0,none⟩) 1 [(f,t)]:=by
 refine⟨rfl,fun _=>⟨w.heap.size,0,rfl,by simp,fun k hk=>?_⟩⟩
 obtain rfl:k=0:=by omega
 constructor
 ·rw[World.cell?_alloc_at _ _ _ _ rfl];rfl
 ·rw[World.cell?_alloc_at _ _ _ _ rfl];rfl
set_option maxHeartbeats 400000 in
theorem Dh (L:List Sp) (N c:Nat) (A:Option Addr) (t:Int) (w:World) (hz:aX w.heap.size w A N L) (hN:N≤2000000) :
  Calls Tryz.prog 171 #[.slice A N c,.int .i64 t] w fun e w'=>lK w.heap.size (fun d=>aK L d&&aK [(0,t)] d) e w'∧Below w.heap.size w w':=by
 have hb0:Below w.heap.size w (w.alloc (.cells #[.int .i64 0,.int .i64 t] 78)):=(Below.refl _ _).alloc (Nat.le_refl _) _
 have HM:=Lib.hid (yP L [(0,t)] N 1 c 1 A (some ⟨w.heap.size,0,none⟩) (w.alloc (.cells #[.int .i64 0,.int .i64 t] 78)) ((hz.below hb0).mono hb0.size) (Fy w 0 t _) hN (by omega))
 have HB:=Lib.hid hb0
 clear hz hb0
 go_enter Tryz.func171,Tryz.ntmps171
 go_wp2_with (go_at_call 196;((with_reducible refine (HM.out).mono ?_);rintro e w1 ⟨⟨A9,n9,c9,R9,rfl,q1,q2,q3,q4⟩,hb⟩;have HQ:=Lib.hid (And.intro q1 q2);clear q1 q2))
 go_ret
 exact⟨⟨A9,n9,c9,R9,rfl,HQ.out.1,HQ.out.2,⟨q3.1,q3.2.1,q3.2.2.mono HB.out.size⟩,q4⟩,HB.out.trans (hb.mono HB.out.size)⟩
set_option maxHeartbeats 400000 in
theorem yC (L:List Sp) (N c:Nat) (A:Option Addr) (t:Int) (w:World) (hz:aX w.heap.size w A N L) (hN:N≤2000000) :
  Calls Tryz.prog 169 #[.slice A N c,.int .i64 t] w fun e w'=>lK w.heap.size (fun d=>aK L d||aK [(t,1048577)] d) e w'∧Below w.heap.size w w':=by
 have hb0:Below w.heap.size w (w.alloc (.cells #[.int .i64 t,.int .i64 1048577] 78)):=(Below.refl _ _).alloc (Nat.le_refl _) _
 have HM:=Lib.hid (Lf L [(t,1048577)] N 1 c 1 A (some ⟨w.heap.size,0,none⟩) (w.alloc (.cells #[.int .i64 t,.int .i64 1048577] 78)) ((hz.below hb0).mono hb0.size) (Fy w t 1048577 _) hN (by omega))
 have HB:=Lib.hid hb0
 clear hz hb0
 go_enter Tryz.func169,Tryz.ntmps169
 go_wp2_with (go_at_call 193;((with_reducible refine (HM.out).mono ?_);rintro e w1 ⟨⟨A9,n9,c9,R9,rfl,q1,q2,q3,q4⟩,hb⟩;have HQ:=Lib.hid (And.intro q1 q2);clear q1 q2))
 go_ret
 exact⟨⟨A9,n9,c9,R9,rfl,HQ.out.1,HQ.out.2,⟨q3.1,q3.2.1,q3.2.2.mono HB.out.size⟩,q4⟩,HB.out.trans (hb.mono HB.out.size)⟩
end Go.Proofs.YtfjibfdelbodjaaGreat
