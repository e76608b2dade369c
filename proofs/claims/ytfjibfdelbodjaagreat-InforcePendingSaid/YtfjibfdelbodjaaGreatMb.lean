/-
  Slices of spans in memory. The contract of appendSpan: a span at the end of a slice of the call's own.
-/
import Derived.Handy
import Derived.WalkMore
import Derived.Lib.Hide
import Derived.WalkLawsBesides
import Derived.WalkSpells
import Derived.Deep.QuietTactic
import Derived.BigQuiet
import Derived.Deep.Draws
import Derived.Test.YtfjibfdelbodjaaGreatProg
import Derived.Test.YtfjibfdelbodjaaGreatMa
import Derived.StillTailTactics
namespace Go.Proofs.YtfjibfdelbodjaaGreat
open Go.RowKit (wrap32 wrap64 intOf Hid Below)
open Spans
theorem Db {k:IntKind} {a b:Int} (h:a=b):Ending.returned (.int k a)=.returned (.int k b):=by rw[h]
def fr (L:List Sp) (k:Nat):Int:=(L.getD k (0,0)).1
def to (L:List Sp) (k:Nat):Int:=(L.getD k (0,0)).2
def aX (B:Nat) (w:World) (A:Option Addr) (n:Nat) (L:List Sp):Prop:=
 L.length=n∧(0 < n→∃b off,A=some ⟨b,off,none⟩∧b < B∧∀k,k < n→w.cell? ⟨b,off+k*2,none⟩=some (.int .i64 (fr L k))∧w.cell? ⟨b,off+k*2+1,none⟩=some (.int .i64 (to L k)))
theorem aX.below {B:Nat} {w w':World} {A:Option Addr} {n:Nat} {L:List Sp} (h:aX B w A n L) (hb:Below B w w'):aX B w' A n L:=
 ⟨h.1,fun hn=>by
  obtain⟨b,off,e,hlt,hc⟩:=h.2 hn
  exact⟨b,off,e,hlt,fun k hk=>⟨(hb.cell (p:=⟨b,off+k*2,none⟩) hlt).trans (hc k hk).1,(hb.cell (p:=⟨b,off+k*2+1,none⟩) hlt).trans (hc k hk).2⟩⟩⟩
theorem aX.mono {B B':Nat} {w:World} {A:Option Addr} {n:Nat} {L:List Sp} (h:aX B w A n L) (hB:B≤B'):aX B' w A n L:=
 ⟨h.1,fun hn=>by
  obtain⟨b,off,e,hlt,hc⟩:=h.2 hn
  exact⟨b,off,e,by omega,hc⟩⟩
theorem aX.cells {B:Nat} {w wr:World} {A:Option Addr} {n:Nat} {L:List Sp} (h:aX B w A n L) (hb:Below B w wr) {k:Nat} (hk:k < n) :
  ∃b off,A=some ⟨b,off,none⟩∧b < B∧wr.cell? ⟨b,off+k*2,none⟩=some (.int .i64 (fr L k))∧wr.cell? ⟨b,off+k*2+1,none⟩=some (.int .i64 (to L k)):=by
 obtain⟨b,off,e,hlt,hc⟩:=h.2 (by omega)
 exact⟨b,off,e,hlt,(hb.cell (p:=⟨b,off+k*2,none⟩) hlt).trans (hc k hk).1,(hb.cell (p:=⟨b,off+k*2+1,none⟩) hlt).trans (hc k hk).2⟩
end Go.Proofs.YtfjibfdelbodjaaGreat
namespace Go.Proofs.YtfjibfdelbodjaaGreat
open Go.RowKit (wrap32 wrap64 intOf Hid Below)
open Spans
def cells (L:List Sp):List Value:=L.flatMap fun s=>[.int .i64 s.1,.int .i64 s.2]
theorem jh (L:List Sp):(cells L).length=L.length*2:=by
 induction L with
 |nil=>rfl
 |cons s r ih=>simp[cells]at ih ⊢;omega
theorem jm (a b:List Sp):cells (a++b)=cells a++cells b:=by simp[cells]
theorem GY:(Tryz.prog.info? 78).map (fun i=>(i.zero,i.size,i.bytes))=some (some (.agg #[.int .i64 0,.int .i64 0]),2,16):=by kernel_rfl
theorem own_below {w w':World} {base n size:Nat} {e:TypeId} {v:Value} {xs:List Value} (h:w.ownsRow base e size v n xs) (hb:Below w.heap.size w w'):w'.ownsRow base e size v n xs:=
 h.kept (row:=none) ⟨hb.os,hb.tape,hb.output,hb.size,fun k hk _=>hb.block k hk⟩ (by
  cases hv:v.ownBlock
  ·exact Or.inl rfl
  ·exact Or.inr (by simp))
theorem j4 {B:Nat} {a w:World} (h:Below B a w) (n:Nat):Below B a (w.drewN n):=⟨h.os,h.tape,h.output,h.size,h.block⟩
theorem bl2 (w:World) (o1 o2:Obj) (n:Nat):Below w.heap.size w (((w.alloc o1).drewN n).alloc o2):=
 (j4 ((Below.refl _ _).alloc (Nat.le_refl _) o1) n).alloc (by simp) o2
theorem new2 (w:World) (o1:Obj) (n:Nat) (f t:Int) (ty:TypeId) (j:Nat) (u:Value) (h:[Value.int .i64 f,.int .i64 t][j]?=some u) :
  (((w.alloc o1).drewN n).alloc (.cells #[.int .i64 f,.int .i64 t] ty)).cell? ((⟨w.heap.size+1,0,none⟩:Addr).add j)=some u:=by
 match j,h with
 |0,h=>
  rw[show ((⟨w.heap.size+1,0,none⟩:Addr).add 0)=⟨w.heap.size+1,0,none⟩ from rfl,World.cell?_alloc_at _ _ _ _ (by simp)]
  exact h
 |1,h=>
  rw[show ((⟨w.heap.size+1,0,none⟩:Addr).add 1)=⟨w.heap.size+1,1,none⟩ from rfl,World.cell?_alloc_at _ _ _ _ (by simp)]
  exact h
set_option maxHeartbeats 800000 in
set_option maxRecDepth 1000000 in
theorem QM (base c:Nat) (A:Option Addr) (f t:Int) (w:World) (hown:w.ownsRow base 78 2 (.slice A 0 c) 0 []) (hB:base≤w.heap.size) :
  Calls Tryz.prog 98 #[.slice A 0 c,.agg #[.int .i64 f,.int .i64 t]] w fun e w'=>(∃v',e=.returned v'∧w'.ownsRow base 78 2 v' 1 (cells [(f,t)]))∧Below base w w':=by
 obtain⟨i0,hi,hz0,hz1,hz2⟩:=info_parts GY
 have HO:Hid (∀W,Below w.heap.size w W→W.ownsRow base 78 2 (.slice A 0 c) 0 []):=Lib.hid fun W hb=>own_below hown hb
 have hlt:=hown.lt
 clear hown
 go_enter Tryz.func98,Tryz.ntmps98
 go_wp2
 go_quiet (fail)
 go_wp2_with (at_builtin;refine wpList_append_own _ rfl _ _ 26 rfl base 78 i0 (.agg #[.int .i64 0,.int .i64 0]) 2 16 Tryz.underlying26 hi hz0 hz1 hz2 rfl (by decide) _ _ _ rfl (HO.out _ (bl2 w _ _ _)) ⟨w.heap.size+1,0,none⟩ 1 1 [.int .i64 f,.int .i64 t] rfl rfl ?c1 ?c2 ?c3 ?c4 ?c5 ?_)
 case c1=>exact fun j u hj=>new2 w _ _ f t _ j u hj
 case c2=>intro u hu;simp at hu;rcases hu with rfl|rfl<;>rfl
 case c3=>unfold maxLen;omega
 case c4=>omega
 case c5=>simp;omega
 intro v' w1 hown' hgrow _
 have hbw:Below base w w1:=Below.grown ((bl2 w _ _ _).mono hB) hgrow (by simp;omega) (fun k hk=>(hlt k hk).1)
 have HG:=Lib.hid hgrow
 have HV:=Lib.hid hown'
 clear hgrow hown'
 go_wp2
 go_ret
 exact⟨⟨v',rfl,HV.out⟩,hbw⟩
set_option maxHeartbeats 800000 in
set_option maxRecDepth 1000000 in
theorem Qe (base g c m:Nat) (K:List Sp) (x f t:Int) (y:Int) (w:World) (hK:K.length=m) (hm:m≤10000000) (hown:w.ownsRow base 78 2 (.slice (some ⟨g,0,none⟩) (m+1) c) (m+1) (cells (K++[(y,x)]))) (hB:base≤w.heap.size) (hx:x < f) :
  Calls Tryz.prog 98 #[.slice (some ⟨g,0,none⟩) (m+1) c,.agg #[.int .i64 f,.int .i64 t]] w fun e w'=>(∃v',e=.returned v'∧w'.ownsRow base 78 2 v' (m+2) (cells (K++[(y,x)]++[(f,t)])))∧Below base w w':=by
 obtain⟨i0,hi,hz0,hz1,hz2⟩:=info_parts GY
 have HO:Hid (∀W,Below w.heap.size w W→W.ownsRow base 78 2 (.slice (some ⟨g,0,none⟩) (m+1) c) (m+1) (cells (K++[(y,x)]))):=Lib.hid fun W hb=>own_below hown hb
 have hlt:=hown.lt g rfl
 have hget:(cells (K++[(y,x)]))[m*2+1]?=some (.int .i64 x):=by
  have e:(cells K).length=m*2:=by rw[jh,hK]
  rw[jm,List.getElem?_append_right (by omega),e]
  rw[show m*2+1 - m*2=1 by omega]
  rfl
 have hcell:∀o:Obj,(w.alloc o).cell? ⟨g,m*2+1,none⟩=some (.int .i64 x):=fun o=>by
  rw[World.cell?_alloc_past _ _ _ hlt.2,hown.cellAt _ (by omega),hget]
 have HCE:=Lib.hid (jm (K++[(y,x)]) [(f,t)])
 obtain⟨hlt1,hlt2⟩:=hlt
 have hne:(((m:Int)+1) == 0)=false:=by rw[beq_eq_false_iff_ne];omega
 clear hown hget
 go_enter Tryz.func98,Tryz.ntmps98
 go_wp2
 go_quiet (fail)
 go_wp2_with (at_builtin;refine wpList_append_own _ rfl _ _ 26 rfl base 78 i0 (.agg #[.int .i64 0,.int .i64 0]) 2 16 Tryz.underlying26 hi hz0 hz1 hz2 rfl (by decide) _ _ _ rfl (HO.out _ (bl2 w _ _ _)) ⟨w.heap.size+1,0,none⟩ 1 1 [.int .i64 f,.int .i64 t] rfl rfl ?c1 ?c2 ?c3 ?c4 ?c5 ?_)
 case c1=>exact fun j u hj=>new2 w _ _ f t _ j u hj
 case c2=>intro u hu;simp at hu;rcases hu with rfl|rfl<;>rfl
 case c3=>unfold maxLen;omega
 case c4=>omega
 case c5=>simp;omega
 intro v' w1 hown' hgrow _
 have hbw:Below base w w1:=Below.grown ((bl2 w _ _ _).mono hB) hgrow (by simp;omega) (fun k hk=>by simp[Value.ownBlock]at hk;omega)
 have HG:=Lib.hid hgrow
 have HV:=Lib.hid hown'
 clear hgrow hown'
 go_wp2
 go_ret
 exact⟨⟨v',rfl,by rw[HCE.out];exact HV.out⟩,hbw⟩
theorem j6 (base g c m:Nat) (K:List Sp) (x y u:Int) (w:World) (hK:K.length=m) (hown:w.ownsRow base 78 2 (.slice (some ⟨g,0,none⟩) (m+1) c) (m+1) (cells (K++[(y,x)]))) (hB:base≤w.heap.size) (o:Obj) (q:Nat) :
  (((w.alloc o).drewN q).setCell ⟨g,m*2+1,none⟩ (.int .i64 u)).ownsRow base 78 2 (.slice (some ⟨g,0,none⟩) (m+1) c) (m+1) (cells (K++[(y,u)]))∧Below base w (((w.alloc o).drewN q).setCell ⟨g,m*2+1,none⟩ (.int .i64 u)):=by
 have hb:Below w.heap.size w ((w.alloc o).drewN q):=j4 ((Below.refl _ _).alloc (Nat.le_refl _) o) q
 have h1:=(own_below hown hb).stored (m*2+1) (.int .i64 u)
 have e:(cells (K++[(y,x)])).set (m*2+1) (.int .i64 u)=cells (K++[(y,u)]):=by
  have el:(cells K).length=m*2:=by rw[jh,hK]
  rw[jm,jm,List.set_append_right _ _ (by omega),el,show m*2+1 - m*2=1 by omega]
  rfl
 rw[e]at h1
 exact⟨h1.1,(hb.mono hB).setCell (p:=⟨g,m*2+1,none⟩) (hown.lt g rfl).1 _⟩
set_option maxHeartbeats 800000 in
set_option maxRecDepth 1000000 in
theorem NN (base g c m:Nat) (K:List Sp) (x f t:Int) (y:Int) (w:World) (hK:K.length=m) (hm:m≤10000000) (hown:w.ownsRow base 78 2 (.slice (some ⟨g,0,none⟩) (m+1) c) (m+1) (cells (K++[(y,x)]))) (hB:base≤w.heap.size) (hx:f≤x) :
  Calls Tryz.prog 98 #[.slice (some ⟨g,0,none⟩) (m+1) c,.agg #[.int .i64 f,.int .i64 t]] w fun e w'=>(∃v',e=.returned v'∧w'.ownsRow base 78 2 v' (m+1) (cells (K++[(y,max x t)])))∧Below base w w':=by
 have hlt:=hown.lt g rfl
 have hget:(cells (K++[(y,x)]))[m*2+1]?=some (.int .i64 x):=by
  have e:(cells K).length=m*2:=by rw[jh,hK]
  rw[jm,List.getElem?_append_right (by omega),e]
  rw[show m*2+1 - m*2=1 by omega]
  rfl
 have hcell:∀o:Obj,(w.alloc o).cell? ⟨g,m*2+1,none⟩=some (.int .i64 x):=fun o=>by
  rw[World.cell?_alloc_past _ _ _ hlt.2,hown.cellAt _ (by omega),hget]
 have hfz:∀o:Obj,(w.alloc o).frozen? ⟨g,m*2+1,none⟩=false:=fun o=>(own_below hown ((Below.refl _ _).alloc (Nat.le_refl _) o)).frozenAt _
 have HO:=Lib.hid hown
 obtain⟨hlt1,hlt2⟩:=hlt
 have hne:(((m:Int)+1) == 0)=false:=by rw[beq_eq_false_iff_ne];omega
 clear hown hget
 go_enter Tryz.func98,Tryz.ntmps98
 go_wp2
 go_quiet (fail)
 go_wp2
 go_region
 all_goals go_wp2
 all_goals
  go_ret
  first
   |exact⟨⟨_,rfl,by rw[show max x t=t by omega];exact (j6 base g c m K x y t w hK HO.out hB _ _).1⟩,(j6 base g c m K x y t w hK HO.out hB _ _).2⟩
   |exact⟨⟨_,rfl,by rw[show max x t=x by omega];exact (j6 base g c m K x y x w hK HO.out hB _ _).1⟩,(j6 base g c m K x y x w hK HO.out hB _ _).2⟩
theorem yj (base n c:Nat) (A:Option Addr) (L:List Sp) (s:Sp) (w:World) (hn:L.length=n) (hm:n≤10000000) (hown:w.ownsRow base 78 2 (.slice A n c) n (cells L)) (hB:base≤w.heap.size) :
  Calls Tryz.prog 98 #[.slice A n c,.agg #[.int .i64 s.1,.int .i64 s.2]] w fun e w'=>(∃A' n' c',e=.returned (.slice A' n' c')∧n'=(apS L s).length∧w'.ownsRow base 78 2 (.slice A' n' c') n' (cells (apS L s)))∧Below base w w':=by
 have slc:∀{v:Value} {k:Nat} {xs:List Value} {W:World},W.ownsRow base 78 2 v k xs→∃A' c',v=.slice A' k c':=fun h=>by
  rcases h.2 with ⟨rfl,rfl⟩|⟨g,cap,cur,rfl,_⟩
  ·exact⟨_,_,rfl⟩
  ·exact⟨_,_,rfl⟩
 rcases List.eq_nil_or_concat L with rfl|⟨K,x,rfl⟩
 ·have h0:n=0:=by simpa using hn.symm
  subst h0
  refine (QM base c A s.1 s.2 w hown hB).mono fun e w' ⟨⟨v',he,hv⟩,hb⟩=>⟨?_,hb⟩
  obtain⟨A',c',rfl⟩:=slc hv
  exact⟨A',1,c',he,rfl,hv⟩
 ·rw[List.concat_eq_append]at hn hown ⊢
  have h1:n=K.length+1:=by simpa using hn.symm
  subst h1
  have hA:∃g,A=some ⟨g,0,none⟩:=by
   rcases hown.2 with ⟨h,h2⟩|⟨g,cap,cur,h,_⟩
   ·omega
   ·injection h with h;exact⟨g,h⟩
  obtain⟨g,rfl⟩:=hA
  rw[kN]
  by_cases hx:x.2 < s.1
  ·rw[if_pos hx]
   refine (Qe base g c K.length K x.2 s.1 s.2 x.1 w rfl (by omega) hown hB hx).mono fun e w' ⟨⟨v',he,hv⟩,hb⟩=>⟨?_,hb⟩
   obtain⟨A',c',rfl⟩:=slc hv
   exact⟨A',_,c',he,by simp,hv⟩
  ·rw[if_neg hx]
   refine (NN base g c K.length K x.2 s.1 s.2 x.1 w rfl (by omega) hown hB (by omega)).mono fun e w' ⟨⟨v',he,hv⟩,hb⟩=>⟨?_,hb⟩
   obtain⟨A',c',rfl⟩:=slc hv
   exact⟨A',_,c',he,by simp,hv⟩
end Go.Proofs.YtfjibfdelbodjaaGreat
