/-
  What the chapter says of trees: nesting, validity, IDs, bareness, equality. Plain mathematics, of no program.
-/
import Derived.Test.YtfjibfdelbodjaaGreatTree
namespace Go.Proofs.YtfjibfdelbodjaaGreat
open Lab Lcs
def nJ.zero:nJ:=⟨0,0,0⟩
def Ut.id:Ut→nJ
 |.mk id _ _ _ _ _=>id
def Ut.kind:Ut→Int
 |.mk _ kind _ _ _ _=>kind
def Ut.label:Ut→Str
 |.mk _ _ label _ _ _=>label
def Ut.head:Ut→List Wd
 |.mk _ _ _ head _ _=>head
def Ut.words:Ut→List Wd
 |.mk _ _ _ _ words _=>words
def Ut.kids:Ut→List Ut
 |.mk _ _ _ _ _ kids=>kids
theorem wU:∀a b:List Ut,Ut.counts (a++b)=Ut.counts a+Ut.counts b
 |[],_=>by simp[Ut.counts]
 |u::r,b=>by simp only[List.cons_append,Ut.counts,wU r b,Nat.add_assoc]
theorem HY (u:Ut):Ut.counts [u]=u.count:=by simp[Ut.counts]
theorem take_one {l:List Ut} {k:Nat} {u:Ut} (h:l[k]?=some u):l.take (k+1)=l.take k++[u]:=by
 obtain⟨hk,he⟩:=List.getElem?_eq_some_iff.1 h
 rw[List.take_succ_eq_append_getElem hk,he]
theorem EB {l:List Ut} {k:Nat} {u:Ut} (h:l[k]?=some u):Ut.counts (l.take (k+1))=Ut.counts (l.take k)+u.count:=by
 rw[take_one h,wU,HY]
theorem vY:∀{l:List Ut} {k:Nat} {u:Ut},l[k]?=some u→Ut.counts (l.take k)+u.count≤Ut.counts l
 |[],_,_,h=>by simp at h
 |a::r,0,u,h=>by
  simp only[List.getElem?_cons_zero,Option.some.injEq]at h
  subst h
  simp[Ut.counts]
 |a::r,k+1,u,h=>by
  simp only[List.getElem?_cons_succ]at h
  have:=vY h
  simp only[List.take_succ_cons,Ut.counts]
  omega
theorem count_mk (id:nJ) (kind:Int) (label:Str) (head words:List Wd) (kids:List Ut):(Ut.mk id kind label head words kids).count=1+Ut.counts kids:=by simp[Ut.count]
theorem N8 (id:nJ) (kind:Int) (label:Str) (head words:List Wd) (kids:List Ut):(Ut.mk id kind label head words kids).depth=Ut.depths kids:=by simp[Ut.depth]
theorem all_mk (id:nJ) (kind:Int) (label:Str) (head words:List Wd) (kids:List Ut):(Ut.mk id kind label head words kids).all=.mk id kind label head words kids::Ut.qB kids:=by simp[Ut.all]
theorem oz (u:Ut):1≤u.count:=by
 cases u with
 |mk id kind label head words kids=>rw[count_mk];omega
theorem Md {l:List Ut} {x:Ut}:x∈Ut.qB l↔∃u∈l,x∈u.all:=by
 induction l with
 |nil=>simp[Ut.qB]
 |cons a r ih=>simp only[Ut.qB,List.mem_append,ih,List.mem_cons,exists_eq_or_imp]
theorem Py {id:nJ} {kind:Int} {label:Str} {head words:List Wd} {kids:List Ut} {k:Nat} {u:Ut} (h:kids[k]?=some u):∀x∈u.all,x∈(Ut.mk id kind label head words kids).all:=fun x hx=>by
 rw[all_mk]
 exact List.mem_cons_of_mem _ (Md.2 ⟨u,List.mem_of_getElem? h,hx⟩)
mutual
def J7:Ut→Ut→Bool
 |.mk i1 k1 l1 h1 w1 c1,.mk i2 k2 l2 h2 w2 c2=>decide (i1=i2)&&decide (k1=k2)&&decide (l1=l2)&&decide (h1=h2)&&decide (w1=w2)&&wG c1 c2
def wG:List Ut→List Ut→Bool
 |[],[]=>true
 |a::r,b::s=>J7 a b&&wG r s
 |[],_::_=>false
 |_::_,[]=>false
end
mutual
theorem same_iff:∀a b:Ut,J7 a b=true↔a=b
 |.mk i1 k1 l1 h1 w1 c1,.mk i2 k2 l2 h2 w2 c2=>by
  unfold J7
  simp only[Bool.and_eq_true,decide_eq_true_eq,Ut.mk.injEq,Aq c1 c2,and_assoc]
theorem Aq:∀a b:List Ut,wG a b=true↔a=b
 |[],[]=>by simp[wG]
 |a::r,b::s=>by
  unfold wG
  simp only[Bool.and_eq_true,same_iff a b,Aq r s,List.cons.injEq]
 |[],_::_=>by simp[wG]
 |_::_,[]=>by simp[wG]
end
instance:DecidableEq Ut:=fun a b=>decidable_of_iff (J7 a b=true) (same_iff a b)
end Go.Proofs.YtfjibfdelbodjaaGreat
