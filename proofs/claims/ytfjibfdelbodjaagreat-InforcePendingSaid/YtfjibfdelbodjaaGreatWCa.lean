/-
  Corpus: copies of units and instructions.
-/
import Derived.Test.YtfjibfdelbodjaaGreatHb
import Derived.Test.YtfjibfdelbodjaaGreatUv
import Derived.Test.YtfjibfdelbodjaaGreatClo
namespace Go.Proofs.YtfjibfdelbodjaaGreat.Po
open Go Go.Pv Go.RowKit
set_option linter.unusedSimpArgs false
open Lab Lcs Go.Proofs.YtfjibfdelbodjaaGreat Go.Proofs.YtfjibfdelbodjaaGreat.Pu
set_option maxRecDepth 10000
set_option maxHeartbeats 16000000
structure Stp where
 kind:Int
 label:Str
def spv (s:Stp):IV:=.agg [.int .i64 s.kind,.str s.label]
inductive It where
 |mk (kind:Int) (p:List Stp) (q:List Stp) (z:Int) (nth:Int) (unit:Ut) (old:List Str) (new:List Str) (lb:Str) (fr:Str) (sk:Int) (sd:Int) (se:Str) (a:Int) (i:Int) (d:Int) (ev:Str) (bys:List It)
def It.kind:It→Int
 |.mk x _ _ _ _ _ _ _ _ _ _ _ _ _ _ _ _ _=>x
def It.p:It→List Stp
 |.mk _ x _ _ _ _ _ _ _ _ _ _ _ _ _ _ _ _=>x
def It.q:It→List Stp
 |.mk _ _ x _ _ _ _ _ _ _ _ _ _ _ _ _ _ _=>x
def It.z:It→Int
 |.mk _ _ _ x _ _ _ _ _ _ _ _ _ _ _ _ _ _=>x
def It.nth:It→Int
 |.mk _ _ _ _ x _ _ _ _ _ _ _ _ _ _ _ _ _=>x
def It.unit:It→Ut
 |.mk _ _ _ _ _ x _ _ _ _ _ _ _ _ _ _ _ _=>x
def It.old:It→List Str
 |.mk _ _ _ _ _ _ x _ _ _ _ _ _ _ _ _ _ _=>x
def It.new:It→List Str
 |.mk _ _ _ _ _ _ _ x _ _ _ _ _ _ _ _ _ _=>x
def It.lb:It→Str
 |.mk _ _ _ _ _ _ _ _ x _ _ _ _ _ _ _ _ _=>x
def It.fr:It→Str
 |.mk _ _ _ _ _ _ _ _ _ x _ _ _ _ _ _ _ _=>x
def It.sk:It→Int
 |.mk _ _ _ _ _ _ _ _ _ _ x _ _ _ _ _ _ _=>x
def It.sd:It→Int
 |.mk _ _ _ _ _ _ _ _ _ _ _ x _ _ _ _ _ _=>x
def It.se:It→Str
 |.mk _ _ _ _ _ _ _ _ _ _ _ _ x _ _ _ _ _=>x
def It.a:It→Int
 |.mk _ _ _ _ _ _ _ _ _ _ _ _ _ x _ _ _ _=>x
def It.i:It→Int
 |.mk _ _ _ _ _ _ _ _ _ _ _ _ _ _ x _ _ _=>x
def It.d:It→Int
 |.mk _ _ _ _ _ _ _ _ _ _ _ _ _ _ _ x _ _=>x
def It.ev:It→Str
 |.mk _ _ _ _ _ _ _ _ _ _ _ _ _ _ _ _ x _=>x
def It.bys:It→List It
 |.mk _ _ _ _ _ _ _ _ _ _ _ _ _ _ _ _ _ x=>x
mutual
def itv:It→IV
 |.mk kind p q z nth unit old new lb fr sk sd se a i d ev bys=>.agg [.int .i64 kind,.sl 2 (p.map spv),.sl 2 (q.map spv),.int .i64 z,.int .i64 nth,.int .i64 unit.id.x,.int .i64 unit.id.y,.int .i64 unit.id.z,.int .i64 unit.kind,.str unit.label,.sl 4 (unit.head.map wdv),.sl 4 (unit.words.map wdv),.sl 8 (unit.kids.map uv),.sl 1 (old.map IV.str),.sl 1 (new.map IV.str),.str lb,.str fr,.int .i64 sk,.int .i64 sd,.str se,.int .i64 a,.int .i64 i,.int .i64 d,.str ev,.sl 25 (Oo bys)]
def Oo:List It→List IV
 |[]=>[]
 |x::r=>itv x::Oo r
end
theorem Et:∀l:List It,Oo l=l.map itv
 |[]=>by simp[Oo]
 |x::r=>by simp[Oo,Et r]
theorem aR (x:It):itv x=.agg [.int .i64 x.kind,.sl 2 (x.p.map spv),.sl 2 (x.q.map spv),.int .i64 x.z,.int .i64 x.nth,.int .i64 x.unit.id.x,.int .i64 x.unit.id.y,.int .i64 x.unit.id.z,.int .i64 x.unit.kind,.str x.unit.label,.sl 4 (x.unit.head.map wdv),.sl 4 (x.unit.words.map wdv),.sl 8 (x.unit.kids.map uv),.sl 1 (x.old.map IV.str),.sl 1 (x.new.map IV.str),.str x.lb,.str x.fr,.int .i64 x.sk,.int .i64 x.sd,.str x.se,.int .i64 x.a,.int .i64 x.i,.int .i64 x.d,.str x.ev,.sl 25 (x.bys.map itv)]:=by cases x;rw[itv,Et];rfl
inductive CpU:Ut→Prop
 |mk (u:Ut) (h:u.head.length≤1000000000∧u.words.length≤1000000000∧u.kids.length≤1000000000) (hk:∀x∈u.kids,CpU x):CpU u
theorem set_self {l:List PV} {k:Nat} {x:PV} (h:l[k]?=some x):l.set k x=l:=by
 obtain⟨hk,he⟩:=List.getElem?_eq_some_iff.1 h
 rw[←he]
 exact List.set_getElem_self hk
theorem DW (u:Ut) (hu:CpU u):PC Tryz.prog aM 152 [uv u] [uv u]:=by
 induction hu with
 |mk u h hk ih=>
 obtain⟨h1,h2,h3⟩:=h
 have hW1:=(vX (X:=aM) (u.head.map wdv) (by simpa using h1)).pc
 have hW2:=(vX (X:=aM) (u.words.map wdv) (by simpa using h2)).pc
 have hU1:=GN (X:=aM) (u.kids.map uv) (by simpa using h3)
 have hml:(u.kids.map uv).length=u.kids.length:=List.length_map _
 have hml2:((u.kids.map uv).map PV.imm).length=u.kids.length:=by simp
 rw[fO u]
 refine PC.aj (T:=(tbf fun r=>match r with|7=>[4]|_=>[])) ay aH rfl mixed Tryz.func152 rfl rfl (Nat.le_of_ble_eq_true rfl) ?_;intro Γ C WK LP fin h0 hW hC hB hR hLP hfin
 (try (conv=>whnf));(repeat ((first|refine qT ?_|refine qF ?_|refine qO ?_|(with_reducible intro z hz);(first|(replace hz:=hz (by omega);subst hz)|subst hz)|(refine ah.mk _ (hC _ _ _ (PCw.of hW1)) (fun js hjs=>?_);subst hjs)|(refine ah.mk _ (hC _ _ _ (PCw.of hW2)) (fun js hjs=>?_);subst hjs));(try (conv=>whnf))))
 refine ah.row _ _ _ (hR _ _ _ _ _ (uM.of (hU1))) (fun js hjs=>?_);subst hjs
 (try (conv=>whnf));(repeat ((first|refine qT ?_|refine qF ?_|refine qO ?_|(with_reducible intro z hz);(first|(replace hz:=hz (by omega);subst hz)|subst hz));(try (conv=>whnf))))
 refine hLP _ _ _ Nat (fun k=>⟨[(1,.ptr 0 1 0),(2,.ptr 1 1 0),(18,.imm (.int .i64 (u.kids.length:Nat))),(19,.imm (.int .i64 (k:Nat)))],[.box 1 [.imm (.int .i64 u.id.x),.imm (.int .i64 u.id.y),.imm (.int .i64 u.id.z),.imm (.int .i64 u.kind),.imm (.str u.label),.imm (.sl 4 (u.head.map wdv)),.imm (.sl 4 (u.words.map wdv)),.row 4 1],.box 1 [.imm (.int .i64 0),.imm (.int .i64 0),.imm (.int .i64 0),.imm (.int .i64 0),.imm (.str ⟨#[]⟩),.imm .nil,.imm .nil,.imm .nil],.dead 0,.dead 0,.row 39 8 1 ((u.kids.map uv).map .imm)]⟩) (fun k=>k≤u.kids.length) (fun k=>u.kids.length - k) 0 (Nat.zero_le _) (qSL 5 rfl rfl (hE:=by (repeat ((conv=>whnf);first|exact trivial|refine And.intro (by first|exact av.any|exact av.eq (by with_reducible rfl) rfl|exact av.eq (congrArg (fun z=>PV.imm (IV.int IntKind.i64 z)) (by first|omega|(simp[hml];done)|(simp[hml];omega))) rfl|exact av.eq (by first|(simp[hml];done)|fail) rfl|exact av.eq rfl rfl|exact av.le rfl (ILe.nil _)) ?_)))) ?_
 intro k hk2
 have hho:=Nat.lt_or_ge k u.kids.length
 cases hho with
 |inl hlt=>
  obtain⟨x,hx⟩:∃x,u.kids[k]?=some x:=⟨u.kids[k],List.getElem?_eq_getElem hlt⟩
  have hC2:=ih x (List.mem_of_getElem? hx)
  have hrx:((u.kids.map uv).map PV.imm)[k]?=some (.imm (uv x)):=by simp[hx]
  have hset:=set_self hrx
  rw[fO x]at hrx hC2 hset
  (try (conv=>whnf));(repeat ((first|refine qT ?_|refine qF ?_|refine qO ?_|(with_reducible intro z hz);(first|(replace hz:=hz (by omega);subst hz)|subst hz));(try (conv=>whnf))))
  refine Pos.mk k rfl (by omega) ?_
  (try (conv=>whnf));(repeat ((first|refine qT ?_|refine qF ?_|refine qO ?_|(with_reducible intro z hz);(first|(replace hz:=hz (by omega);subst hz)|subst hz));(try (conv=>whnf))))
  refine At.mk _ hrx ?_
  (try (conv=>whnf));(repeat ((first|refine qT ?_|refine qF ?_|refine qO ?_|(with_reducible intro z hz);(first|(replace hz:=hz (by omega);subst hz)|subst hz)|(refine ah.mk _ (hC _ _ _ (PCw.of hC2)) (fun js hjs=>?_);subst hjs));(try (conv=>whnf))))
  refine Pos.mk k rfl (by omega) ?_
  (try (conv=>whnf));(repeat ((first|refine qT ?_|refine qF ?_|refine qO ?_|(with_reducible intro z hz);(first|(replace hz:=hz (by omega);subst hz)|subst hz));(try (conv=>whnf))))
  refine At.mk _ hrx ?_
  (try (conv=>whnf));(repeat ((first|refine qT ?_|refine qF ?_|refine qO ?_|(with_reducible intro z hz);(first|(replace hz:=hz (by omega);subst hz)|subst hz));(try (conv=>whnf))))
  exact⟨k+1,by omega,by dsimp only;omega,((aC.row 4 (((u.kids.map uv).map .imm)) rfl (by exact hset)).trans (qSL 5 rfl rfl))⟩
 |inr hge=>
  obtain rfl:k=u.kids.length:=by omega
  (try (conv=>whnf));(repeat ((first|refine qT ?_|refine qF ?_|refine qO ?_|(with_reducible intro z hz);(first|(replace hz:=hz (by omega);subst hz)|subst hz));(try (conv=>whnf))))
  refine bN.mk (u.kids.map uv) rfl ?_
  (try (conv=>whnf));(repeat ((first|refine qT ?_|refine qF ?_|refine qO ?_|(with_reducible intro z hz);(first|(replace hz:=hz (by omega);subst hz)|subst hz));(try (conv=>whnf))))
  exact hfin _ (aA.refl _)
end Go.Proofs.YtfjibfdelbodjaaGreat.Po
