/-
  Trees of units as plain values.
-/
import Derived.Test.YtfjibfdelbodjaaGreatVal
import Derived.Test.YtfjibfdelbodjaaGreatProg
import Derived.Test.YtfjibfdelbodjaaGreatP7
import Derived.IntWalk
namespace Go.Proofs.YtfjibfdelbodjaaGreat
open Lab Lcs
theorem kD:∀l:List Ut,l.length≤Ut.counts l
 |[]=>Nat.zero_le _
 |u::r=>by
  have h1:=oz u
  have h2:=kD r
  simp only[List.length_cons,Ut.counts]
  omega
end Go.Proofs.YtfjibfdelbodjaaGreat
namespace Go.Proofs.YtfjibfdelbodjaaGreat.Pu
open Go Go.Pv
open Lab Lcs Go.Proofs.YtfjibfdelbodjaaGreat
def idl (t:nJ):List IV:=[.int .i64 t.x,.int .i64 t.y,.int .i64 t.z]
def wdv (a:Wd):IV:=.agg [.str a.text,.int .i64 a.mark.x,.int .i64 a.mark.y,.int .i64 a.mark.z]
mutual
def uv:Ut→IV
 |.mk id kind label head words kids=>.agg [.int .i64 id.x,.int .i64 id.y,.int .i64 id.z,.int .i64 kind,.str label,.sl 4 (head.map wdv),.sl 4 (words.map wdv),.sl 8 (uvs kids)]
def uvs:List Ut→List IV
 |[]=>[]
 |u::r=>uv u::uvs r
end
theorem Jw:∀l:List Ut,uvs l=l.map uv
 |[]=>by simp[uvs]
 |u::r=>by simp[uvs,Jw r]
theorem Rf (id:nJ) (kind:Int) (label:Str) (head words:List Wd) (kids:List Ut):uv (.mk id kind label head words kids)=.agg [.int .i64 id.x,.int .i64 id.y,.int .i64 id.z,.int .i64 kind,.str label,.sl 4 (head.map wdv),.sl 4 (words.map wdv),.sl 8 (kids.map uv)]:=by rw[uv,Jw]
theorem fO (u:Ut):uv u=.agg [.int .i64 u.id.x,.int .i64 u.id.y,.int .i64 u.id.z,.int .i64 u.kind,.str u.label,.sl 4 (u.head.map wdv),.sl 4 (u.words.map wdv),.sl 8 (u.kids.map uv)]:=by
 cases u;exact Rf _ _ _ _ _ _
theorem Cn {u x:Ut} {k:Nat} (h:u.kids[k]?=some x):Ut.counts (u.kids.take k)+x.count < u.count∧k < u.kids.length∧u.kids.length < u.count∧Ut.counts (u.kids.take (k+1))=Ut.counts (u.kids.take k)+x.count:=by
 have h1:=vY h
 have h3:=kD u.kids
 have h4:=(List.getElem?_eq_some_iff.1 h).1
 have h5:=EB h
 have h6:u.count=1+Ut.counts u.kids:=by cases u;exact count_mk _ _ _ _ _ _
 omega
theorem Ut.count_eq (u:Ut):u.count=1+Ut.counts u.kids:=by cases u;exact count_mk _ _ _ _ _ _
theorem Ut.all_eq (u:Ut):u.all=u::Ut.qB u.kids:=by cases u;exact all_mk _ _ _ _ _ _
end Go.Proofs.YtfjibfdelbodjaaGreat.Pu
