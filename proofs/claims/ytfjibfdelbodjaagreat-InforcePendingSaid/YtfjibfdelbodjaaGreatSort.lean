/-
  The library's sort at a slice of spans of the call's own: what it holds behind the call is a permutation, in the order of the spans' beginnings.
-/
import Derived.Shelf.SlSortCmp.WholeK
import Derived.Test.YtfjibfdelbodjaaGreatSrt
import Derived.Test.YtfjibfdelbodjaaGreatShelf
import Derived.Test.YtfjibfdelbodjaaGreatMb
namespace Go.Proofs.YtfjibfdelbodjaaGreat
open Go.RowKit (wrap32 wrap64 intOf Hid)
open Go.Sort (SWO PermIn SortedIn HoldsK Holds flatK putRow putRowK grow alloc_eq_grow grow_grow heap_grow_old cell?_grow cell?_putRow get_flatK size_flatK mapBlock)
open Go.Shelf Spans
abbrev Low:=@Go.RowKit.Below
theorem QS (a b:Int) (w:World) :
  Calls Tryz.prog 97 #[.int .i64 a,.int .i64 b] w fun e w'=>e=.returned (.int .i64 (Lib.compareInt a b))∧w'=w:=by
 rcases Int.lt_trichotomy a b with h|h|h
 ·have hr:Lib.compareInt a b=-1:=by simp[Lib.compareInt,h]
  have HR:=Lib.hid hr
  clear hr
  go_enter Tryz.func97,Tryz.ntmps97
  go_wp2
  go_ret
  exact⟨Db HR.out.symm,rfl⟩
 ·have hr:Lib.compareInt a b=0:=by subst h;simp[Lib.compareInt]
  have HR:=Lib.hid hr
  subst h
  clear hr
  go_enter Tryz.func97,Tryz.ntmps97
  go_wp2
  go_ret
  exact⟨Db HR.out.symm,rfl⟩
 ·have hr:Lib.compareInt a b=1:=by simp[Lib.compareInt,h];omega
  have HR:=Lib.hid hr
  clear hr
  go_enter Tryz.func97,Tryz.ntmps97
  go_wp2
  go_ret
  exact⟨Db HR.out.symm,rfl⟩
def encS (x:Sp):List Value:=[.int .i64 x.1,.int .i64 x.2]
def cf (x y:Sp):Int:=Lib.compareInt x.1 y.1
set_option maxHeartbeats 1000000 in
theorem FI (x y:Sp) (W:World):Calls Tryz.prog 96 #[.agg #[.int .i64 x.1,.int .i64 x.2],.agg #[.int .i64 y.1,.int .i64 y.2]] W fun e w'=>e=.returned (.int .i64 (cf x y))∧∃q os',w'=grow (W.drewN q) os':=by
 have HC:Hid (∀w,Calls Tryz.prog 97 #[.int .i64 x.1,.int .i64 y.1] w fun e w'=>e=.returned (.int .i64 (cf x y))∧w'=w):=Lib.hid fun w=>QS x.1 y.1 w
 generalize cf x y=r at HC ⊢
 go_enter Tryz.func96,Tryz.ntmps96
 go_wp2_with (go_at_call 97;refine (HC.out _).mono ?_;rintro e w' ⟨rfl,rfl⟩)
 go_ret
 exact⟨rfl,0,_,by rw[alloc_eq_grow,alloc_eq_grow,grow_grow];rfl⟩
theorem lt_iff (x y:Sp):ltOf cf x y=decide (x.1 < y.1):=by
 unfold ltOf cf Lib.compareInt
 by_cases h1:x.1 < y.1
 ·simp[h1]
 ·by_cases h2:y.1 < x.1<;>simp[h1,h2]
theorem swo:SWO (ltOf cf) where
 irrefl x:=by rw[lt_iff];simp
 trans x y z h1 h2:=by rw[lt_iff]at *;simp at *;omega
 ntrans x y z h1 h2:=by rw[lt_iff]at *;simp at *;omega
theorem Qa:∀w,(isAgg 78).run Tryz.prog w=.ok true w:=fun _=>by kernel_rfl
theorem OJ:∀w,(Go.sizeOf 78).run Tryz.prog w=.ok 2 w:=fun _=>by kernel_rfl
theorem oW:∀(L:List Sp) (t:Nat),t < L.length*2→(cells L)[t]?=some (if t % 2=0 then .int .i64 (fr L (t / 2)) else .int .i64 (to L (t / 2)))
 |[],t,h=>by simp at h
 |s::r,0,_=>rfl
 |s::r,1,_=>rfl
 |s::r,t+2,h=>by
  have ih:=oW r t (by simp at h;omega)
  have e1:(cells (s::r))[t+2]?=(cells r)[t]?:=rfl
  have e2:fr (s::r) ((t+2) / 2)=fr r (t / 2):=by rw[show (t+2) / 2=t / 2+1 by omega];rfl
  have e3:to (s::r) ((t+2) / 2)=to r (t / 2):=by rw[show (t+2) / 2=t / 2+1 by omega];rfl
  rw[e1,ih,e2,e3,show (t+2) % 2=t % 2 by omega]
theorem BM (P:List Sp) (k:Nat) (hk:k < P.length):P.toArray[k]! = (fr P k,to P k):=by
 rw[getElem!_pos _ _ (by simpa using hk)]
 unfold fr to
 simp[List.getD,List.getElem?_eq_getElem hk]
theorem flat_get (P:List Sp) (t:Nat) (ht:t < P.length*2):(flatK encS 2 P.toArray)[t]! = (if t % 2=0 then .int .i64 (fr P (t / 2)) else .int .i64 (to P (t / 2))):=by
 rw[get_flatK _ _ _ _ (by simpa using ht),BM P (t / 2) (by omega)]
 unfold encS
 rcases (by omega:t % 2=0∨t % 2=1) with h|h
 ·rw[h];rfl
 ·rw[h];rfl
theorem qb {base n c:Nat} {A:Option Addr} {L:List Sp} {w:World} (hown:w.ownsRow base 78 2 (.slice A n c) n (cells L)):aX w.heap.size w A n L:=by
 have hl:L.length=n:=by have:=hown.1;rw[jh]at this;omega
 refine⟨hl,fun hn=>?_⟩
 rcases hown.2 with ⟨_,h2⟩|⟨g,cap,cur,h,_⟩
 ·omega
 ·injection h with h1 h2
  subst h1
  have hg:=hown.lt g rfl
  refine⟨g,0,rfl,hg.2,fun k hk=>?_⟩
  rw[Nat.zero_add,hown.cellAt (k*2) (by omega),hown.cellAt (k*2+1) (by omega),oW L _ (by omega),oW L _ (by omega)]
  rw[if_pos (by omega),if_neg (by omega),show k*2 / 2=k by omega,show (k*2+1) / 2=k by omega]
  exact⟨rfl,rfl⟩
def Ord (L:List Sp):Prop:=∀i j,i < j→j < L.length→fr L i≤fr L j
set_option maxHeartbeats 1000000 in
theorem Pg (A:Option Addr) (c:Nat) (fv:Value) (w:World) :
  Calls Tryz.prog 175 #[.slice A 0 c,.int .i64 0,.int .i64 0,fv] w fun e w'=>e=.returned (.tuple #[])∧w'=w:=by
 go_enter Tryz.func175,Tryz.ntmps175
 go_wp2
 refine wp_loop_rounds 1 ?_
 rw[rounds_succ]
 go_wp2
 go_end0
 exact⟨rfl,rfl⟩
set_option maxHeartbeats 1000000 in
set_option maxRecDepth 1000000 in
theorem Mc (A:Option Addr) (c:Nat) (l:Int) (fv:Value) (w:World) :
  Calls Tryz.prog 137 #[.slice A 0 c,.int .i64 0,.int .i64 0,.int .i64 l,fv] w fun e w'=>e=.returned (.tuple #[])∧w'=w:=by
 go_enter Tryz.func137,Tryz.ntmps137
 go_wp2
 refine wp_loop_rounds 1 ?_
 rw[rounds_succ]
 go_wp2_with (go_at_call 175;refine (Pg _ _ _ _).mono ?_;rintro e w' ⟨rfl,rfl⟩)
 (try simp only[Exit.inBlock,Exit.then]);refine bodyPost_ret (results_none rfl _ _ _) rfl ?_
 exact⟨rfl,rfl⟩
set_option maxHeartbeats 1000000 in
theorem LQ (A:Option Addr) (c:Nat) (w:World) :
  Calls Tryz.prog 95 #[.slice A 0 c,.func (.func 96) #[] #[]] w fun e w'=>e=.returned (.tuple #[])∧w'=w:=by
 go_enter Tryz.func95,Tryz.ntmps95
 go_wp2_with (first
  |(go_at_call 72;refine (Tryz.bits_Len _ _ (by omega) (by omega)).mono ?_;rintro e w' ⟨rfl,rfl⟩)
  |(go_at_call 137;refine (Mc _ _ _ _ _).mono ?_;rintro e w' ⟨rfl,rfl⟩))
 go_end0
 exact⟨rfl,rfl⟩
theorem KA (base g c:Nat) (P:List Sp) (w:World) (hn:P.length≤10000000) (hown:w.ownsRow base 78 2 (.slice (some ⟨g,0,none⟩) P.length c) P.length (cells P)) :
  Calls Tryz.prog 95 #[.slice (some ⟨g,0,none⟩) P.length c,.func (.func 96) #[] #[]] w fun e w'=>e=.returned (.tuple #[])∧(∃P':List Sp,P'.Perm P∧Ord P'∧aX w'.heap.size w' (some ⟨g,0,none⟩) P.length P')∧Low base w w':=by
 have eg:∀args w,(callFunc 96 args).run Tryz.prog w=.ok (.enter 96 args) w:=enters_of Tryz.func96 (by kernel_rfl) rfl
 have hg:=hown.lt g rfl
 have hH:HoldsK encS 2 w g 0 P.toArray:=fun j hj=>by
  have hj':j < P.length*2:=by simpa using hj
  rw[Nat.zero_add,hown.cellAt j hj',oW P j hj',flat_get P j hj']
  exact⟨rfl,hown.frozenAt j⟩
 have hcon:=AnyQ.slices_SortFunc Tryz.sortSpan 2 Qa OJ encS (fun _=>rfl) (fun x v hv=>by simp[encS]at hv;rcases hv with rfl|rfl<;>rfl) cf swo 96 #[] g 0 c P.toArray w eg (fun _ _ _ _ x y=>FI x y _) hH hg.2 (by simp;omega)
 change Calls Tryz.prog 95 _ _ _ at hcon
 refine hcon.mono fun e w' ⟨he,d',nn,os,hp,hs,hw⟩=>⟨he,⟨d'.toList,?_,?_,?_⟩,?_⟩
 ·have h3:=hp.2.2
  have h1:=hp.1
  rw[Array.extract_eq_self_of_le (by omega),Array.extract_eq_self_of_le (by simp)]at h3
  simpa using h3
 ·intro i j hij hj
  have hj':j < d'.size:=by simpa using hj
  have h1:=hp.1
  have:=hs i j (Nat.zero_le _) hij (by omega)
  rw[lt_iff,decide_eq_false_iff_not]at this
  have e1:=BM d'.toList j (by simpa using hj)
  have e2:=BM d'.toList i (by have:=hj;omega)
  simp only[Array.toArray_toList]at e1 e2
  rw[e1,e2]at this
  simpa using this
 ·have hsz:d'.size=P.length:=by simpa using hp.1
  have hlt:g < (putRowK encS 2 (Go.Sort.ahead w nn) g 0 d').heap.size:=by simp[putRowK,putRow,mapBlock,Go.Sort.ahead];exact hg.2
  refine⟨by simpa using hsz,fun hn=>⟨g,0,rfl,?_,fun k hk=>?_⟩⟩
  ·rw[hw];simp[sortWorldK,grow];omega
  ·have cell:∀t,t < P.length*2→w'.cell? ⟨g,0+t,none⟩=some (if t % 2=0 then .int .i64 (fr d'.toList (t / 2)) else .int .i64 (to d'.toList (t / 2))):=fun t ht=>by
    rw[hw]
    unfold sortWorldK
    rw[cell?_grow _ _ _ hlt]
    have:=cell?_putRow id (Go.Sort.ahead w nn) g 0 (flatK encS 2 P.toArray) (flatK encS 2 d') hH (by simp[hsz]) t (by simpa[hsz]using ht)
    refine this.trans ?_
    have hf:=flat_get d'.toList t (by simp[hsz];omega)
    simp only[Array.toArray_toList]at hf
    rw[hf]
    rfl
   have c1:=cell (k*2) (by omega)
   have c2:=cell (k*2+1) (by omega)
   rw[if_pos (by omega),show k*2 / 2=k by omega]at c1
   rw[if_neg (by omega),show (k*2+1) / 2=k by omega]at c2
   exact⟨c1,c2⟩
 ·rw[hw]
  refine⟨rfl,rfl,rfl,by simp[sortWorldK,grow,putRowK,putRow,mapBlock,Go.Sort.ahead],fun k hk=>?_⟩
  unfold sortWorldK
  rw[heap_grow_old _ _ (by simp[putRowK,putRow,mapBlock,Go.Sort.ahead];omega)]
  have:g≠k:=by omega
  simp[putRowK,putRow,mapBlock,Go.Sort.ahead,Array.getElem?_modify,this]
end Go.Proofs.YtfjibfdelbodjaaGreat
