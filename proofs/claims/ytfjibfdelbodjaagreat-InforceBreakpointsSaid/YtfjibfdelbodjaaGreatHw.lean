/-
  Comparisons of words, steps, strings, trees and instructions: they tell whether two are one. Comparisons of instructions and of enacted items.
-/
import Derived.Test.YtfjibfdelbodjaaGreatGd
namespace Go.Proofs.YtfjibfdelbodjaaGreat.Po
open Go Go.Pv Go.RowKit
set_option linter.unusedSimpArgs false
open Lab Lcs Go.Proofs.YtfjibfdelbodjaaGreat Go.Proofs.YtfjibfdelbodjaaGreat.Pu
set_option maxRecDepth 10000
set_option maxHeartbeats 64000000
noncomputable instance:DecidableEq It:=fun a b=>Classical.propDecidable (a=b)
noncomputable instance:DecidableEq Ut:=fun a b=>Classical.propDecidable (a=b)
noncomputable instance:DecidableEq Ei:=fun a b=>Classical.propDecidable (a=b)
noncomputable instance:DecidableEq Stp:=fun a b=>Classical.propDecidable (a=b)
def Sq:TypeId→Option (List CK):=fun t=>if t=35 then some [.int .i64,.int .i64,.int .i64] else if t=213 then some [.str,.int .i64,.int .i64,.int .i64] else eqs t
theorem aZ:dW Tryz.prog Sq:=fun t ks h=>by
 unfold Sq at h
 split at h
 ·rename_i e;subst e;exact qL _ ks (by rw[←h];kernel_rfl)
 ·split at h
  ·rename_i e;subst e;exact qL _ ks (by rw[←h];kernel_rfl)
  ·exact ay t ks h
noncomputable def tbq:Tb:=⟨Pv.look tdl,Sq,fun _=>none,fun _=>[],fun _=>false,fun _=>0⟩
theorem bD:∀t d,tbq.td t=some d→aJ Tryz.prog t=some d:=Pv.look_ok lY
theorem RH (a b:nJ):eqC [.int .i64 a.x,.int .i64 a.y,.int .i64 a.z] [.int .i64 b.x,.int .i64 b.y,.int .i64 b.z]=decide (a=b):=by
 cases a;cases b
 rw[Bool.eq_iff_iff]
 simp[eqC]
theorem SC (a b:Wd):eqC [.str a.text,.int .i64 a.mark.x,.int .i64 a.mark.y,.int .i64 a.mark.z] [.str b.text,.int .i64 b.mark.x,.int .i64 b.mark.y,.int .i64 b.mark.z]=decide (a=b):=by
 obtain⟨t,⟨x,y,z⟩⟩:=a
 obtain⟨t',⟨x',y',z'⟩⟩:=b
 rw[Bool.eq_iff_iff]
 simp[eqC]
theorem P5 (a b:Stp):eqC [.int .i64 a.kind,.str a.label] [.int .i64 b.kind,.str b.label]=decide (a=b):=by
 cases a;cases b
 rw[Bool.eq_iff_iff]
 simp[eqC]
theorem Kq (a b c d:Int) (s t:Str):eqC [.int .i64 a,.int .i64 b,.str s] [.int .i64 c,.int .i64 d,.str t]=decide (a=c∧b=d∧s=t):=by
 rw[Bool.eq_iff_iff]
 simp[eqC]
theorem mg {α:Type} {a b:List α} {k:Nat} {x y:α} (hx:a[k]?=some x) (hy:b[k]?=some y) (h:x≠y):a≠b:=fun e=>h (by rw[e,hy]at hx;injection hx with hx;exact hx.symm)
theorem BN (x:Wd):wdv x=.agg [.str x.text,.int .i64 x.mark.x,.int .i64 x.mark.y,.int .i64 x.mark.z]:=by first|rfl|(cases x;rfl)
theorem Eo (a b:List Str) (_:a.length≤1000000000) (hb:b.length≤1000000000):PC Tryz.prog aM 24 [.sl 1 (a.map IV.str),.sl 1 (b.map IV.str)] [.bool (decide (a=b))]:=by
 have hal:(a.map IV.str).length=a.length:=List.length_map _
 have hbl:(b.map IV.str).length=b.length:=List.length_map _
 by_cases hl:a.length=b.length
 rotate_left
 ·rw[decide_eq_false (fun e=>hl (by rw[e]))]
  refine PC.aj (T:=tbq) aZ bD rfl mixed Tryz.func24 rfl rfl (Nat.le_of_ble_eq_true rfl) ?_;intro Γ C WK LP fin h0 hW hC hB hR hLP hfin
  (try (conv=>whnf));(repeat ((first|refine qT ?_|refine qF ?_|refine qO ?_|(with_reducible intro z hz);(first|(replace hz:=hz (by omega);subst hz)|subst hz));(try (conv=>whnf))))
  exact hfin _ (aA.refl _)
 refine PC.aj (T:=tbq) aZ bD rfl mixed Tryz.func24 rfl rfl (Nat.le_of_ble_eq_true rfl) ?_;intro Γ C WK LP fin h0 hW hC hB hR hLP hfin
 (try (conv=>whnf));(repeat ((first|refine qT ?_|refine qF ?_|refine qO ?_|(with_reducible intro z hz);(first|(replace hz:=hz (by omega);subst hz)|subst hz));(try (conv=>whnf))))
 refine hLP _ _ _ Nat (fun k=>⟨[(0,.imm (.sl 1 (a.map IV.str))),(1,.imm (.sl 1 (b.map IV.str))),(5,.imm (.int .i64 (k:Nat)))],[]⟩) (fun k=>k≤a.length∧a.take k=b.take k) (fun k=>a.length - k) 0 ⟨Nat.zero_le _,by simp⟩ (qSL 0 rfl rfl (hE:=by (repeat ((conv=>whnf);first|exact trivial|refine And.intro (by first|exact av.any|exact av.eq (by with_reducible rfl) rfl|exact av.eq (congrArg (fun z=>PV.imm (IV.int IntKind.i64 z)) (by first|omega|(simp[hal];done)|(simp[hal];omega))) rfl|exact av.eq (by first|(simp[hal];done)|fail) rfl|exact av.eq rfl rfl|exact av.le rfl (ILe.nil _)) ?_)))) ?_
 rintro k ⟨hk,he⟩
 have hho:=Nat.lt_or_ge k a.length
 cases hho with
 |inl hlt=>
  obtain⟨x,hx⟩:∃x,a[k]?=some x:=⟨a[k],List.getElem?_eq_getElem hlt⟩
  obtain⟨y,hy⟩:∃y,b[k]?=some y:=⟨b[k],List.getElem?_eq_getElem (by omega)⟩
  by_cases hxy:x=y
  ·(try (conv=>whnf));(repeat ((first|refine qT ?_|refine qF ?_|refine qO ?_|(with_reducible intro z hz);(first|(replace hz:=hz (by omega);subst hz)|subst hz));(try (conv=>whnf))))
   refine Idx.mk k (IV.str x) _ rfl (by simp[hx]) rfl ?_
   (try (conv=>whnf));(repeat ((first|refine qT ?_|refine qF ?_|refine qO ?_|(with_reducible intro z hz);(first|(replace hz:=hz (by omega);subst hz)|subst hz));(try (conv=>whnf))))
   refine Idx.mk k (IV.str y) _ rfl (by simp[hy]) rfl ?_
   (try (conv=>whnf));(repeat ((first|refine qT ?_|refine qF ?_|refine qO ?_|(with_reducible intro z hz);(first|(replace hz:=hz (by omega);subst hz)|subst hz));(try (conv=>whnf))))
   exact⟨k+1,⟨by omega,by rw[take_at hx,take_at hy,he,hxy]⟩,by dsimp only;omega,(qSL 0 rfl rfl)⟩
  ·rw[decide_eq_false (mg hx hy hxy)]at hfin
   (try (conv=>whnf));(repeat ((first|refine qT ?_|refine qF ?_|refine qO ?_|(with_reducible intro z hz);(first|(replace hz:=hz (by omega);subst hz)|subst hz));(try (conv=>whnf))))
   refine Idx.mk k (IV.str x) _ rfl (by simp[hx]) rfl ?_
   (try (conv=>whnf));(repeat ((first|refine qT ?_|refine qF ?_|refine qO ?_|(with_reducible intro z hz);(first|(replace hz:=hz (by omega);subst hz)|subst hz));(try (conv=>whnf))))
   refine Idx.mk k (IV.str y) _ rfl (by simp[hy]) rfl ?_
   (try (conv=>whnf));(repeat ((first|refine qT ?_|refine qF ?_|refine qO ?_|(with_reducible intro z hz);(first|(replace hz:=hz (by omega);subst hz)|subst hz));(try (conv=>whnf))))
   exact hfin _ (aA.refl _)
 |inr hge=>
  obtain rfl:k=a.length:=by omega
  rw[List.take_length,hl,List.take_length]at he
  rw[decide_eq_true he]at hfin
  (try (conv=>whnf));(repeat ((first|refine qT ?_|refine qF ?_|refine qO ?_|(with_reducible intro z hz);(first|(replace hz:=hz (by omega);subst hz)|subst hz));(try (conv=>whnf))))
  exact hfin _ (aA.refl _)
theorem FN (a b:List Stp) (_:a.length≤1000000000) (hb:b.length≤1000000000):PC Tryz.prog aM 92 [.sl 2 (a.map spv),.sl 2 (b.map spv)] [.bool (decide (a=b))]:=by
 have hal:(a.map spv).length=a.length:=List.length_map _
 have hbl:(b.map spv).length=b.length:=List.length_map _
 by_cases hl:a.length=b.length
 rotate_left
 ·rw[decide_eq_false (fun e=>hl (by rw[e]))]
  refine PC.aj (T:=tbq) aZ bD rfl mixed Tryz.func92 rfl rfl (Nat.le_of_ble_eq_true rfl) ?_;intro Γ C WK LP fin h0 hW hC hB hR hLP hfin
  (try (conv=>whnf));(repeat ((first|refine qT ?_|refine qF ?_|refine qO ?_|(with_reducible intro z hz);(first|(replace hz:=hz (by omega);subst hz)|subst hz));(try (conv=>whnf))))
  exact hfin _ (aA.refl _)
 refine PC.aj (T:=tbq) aZ bD rfl mixed Tryz.func92 rfl rfl (Nat.le_of_ble_eq_true rfl) ?_;intro Γ C WK LP fin h0 hW hC hB hR hLP hfin
 (try (conv=>whnf));(repeat ((first|refine qT ?_|refine qF ?_|refine qO ?_|(with_reducible intro z hz);(first|(replace hz:=hz (by omega);subst hz)|subst hz));(try (conv=>whnf))))
 refine hLP _ _ _ Nat (fun k=>⟨[(0,.imm (.sl 2 (a.map spv))),(1,.imm (.sl 2 (b.map spv))),(5,.imm (.int .i64 (k:Nat)))],[]⟩) (fun k=>k≤a.length∧a.take k=b.take k) (fun k=>a.length - k) 0 ⟨Nat.zero_le _,by simp⟩ (qSL 0 rfl rfl (hE:=by (repeat ((conv=>whnf);first|exact trivial|refine And.intro (by first|exact av.any|exact av.eq (by with_reducible rfl) rfl|exact av.eq (congrArg (fun z=>PV.imm (IV.int IntKind.i64 z)) (by first|omega|(simp[hal];done)|(simp[hal];omega))) rfl|exact av.eq (by first|(simp[hal];done)|fail) rfl|exact av.eq rfl rfl|exact av.le rfl (ILe.nil _)) ?_)))) ?_
 rintro k ⟨hk,he⟩
 have hho:=Nat.lt_or_ge k a.length
 cases hho with
 |inl hlt=>
  obtain⟨x,hx⟩:∃x,a[k]?=some x:=⟨a[k],List.getElem?_eq_getElem hlt⟩
  obtain⟨y,hy⟩:∃y,b[k]?=some y:=⟨b[k],List.getElem?_eq_getElem (by omega)⟩
  have hi:=P5 x y
  by_cases hxy:x=y
  ·rw[decide_eq_true hxy]at hi
   (try (conv=>whnf));(repeat ((first|refine qT ?_|refine qF ?_|refine qO ?_|(with_reducible intro z hz);(first|(replace hz:=hz (by omega);subst hz)|subst hz));(try (conv=>whnf))))
   refine Idx.mk k (spv x) _ rfl (by simp[hx]) rfl ?_
   (try (conv=>whnf));(repeat ((first|refine qT ?_|refine qF ?_|refine qO ?_|(with_reducible intro z hz);(first|(replace hz:=hz (by omega);subst hz)|subst hz));(try (conv=>whnf))))
   refine Idx.mk k (spv y) _ rfl (by simp[hy]) rfl ?_
   (try (conv=>whnf));(repeat ((first|refine qT ?_|refine qF ?_|refine qO ?_|(with_reducible intro z hz);(first|(replace hz:=hz (by omega);subst hz)|subst hz));(try (conv=>whnf))))
   exact⟨k+1,⟨by omega,by rw[take_at hx,take_at hy,he,hxy]⟩,by dsimp only;omega,(qSL 0 rfl rfl)⟩
  ·rw[decide_eq_false hxy]at hi
   have hi:=ne_true_of_eq_false hi
   rw[decide_eq_false (mg hx hy hxy)]at hfin
   (try (conv=>whnf));(repeat ((first|refine qT ?_|refine qF ?_|refine qO ?_|(with_reducible intro z hz);(first|(replace hz:=hz (by omega);subst hz)|subst hz));(try (conv=>whnf))))
   refine Idx.mk k (spv x) _ rfl (by simp[hx]) rfl ?_
   (try (conv=>whnf));(repeat ((first|refine qT ?_|refine qF ?_|refine qO ?_|(with_reducible intro z hz);(first|(replace hz:=hz (by omega);subst hz)|subst hz));(try (conv=>whnf))))
   refine Idx.mk k (spv y) _ rfl (by simp[hy]) rfl ?_
   (try (conv=>whnf));(repeat ((first|refine qT ?_|refine qF ?_|refine qO ?_|(with_reducible intro z hz);(first|(replace hz:=hz (by omega);subst hz)|subst hz));(try (conv=>whnf))))
   exact hfin _ (aA.refl _)
 |inr hge=>
  obtain rfl:k=a.length:=by omega
  rw[List.take_length,hl,List.take_length]at he
  rw[decide_eq_true he]at hfin
  (try (conv=>whnf));(repeat ((first|refine qT ?_|refine qF ?_|refine qO ?_|(with_reducible intro z hz);(first|(replace hz:=hz (by omega);subst hz)|subst hz));(try (conv=>whnf))))
  exact hfin _ (aA.refl _)
theorem Fa (a b:List Wd) (_:a.length≤1000000000) (hb:b.length≤1000000000):PC Tryz.prog aM 136 [.sl 4 (a.map wdv),.sl 4 (b.map wdv)] [.bool (decide (a=b))]:=by
 have hal:(a.map wdv).length=a.length:=List.length_map _
 have hbl:(b.map wdv).length=b.length:=List.length_map _
 by_cases hl:a.length=b.length
 rotate_left
 ·rw[decide_eq_false (fun e=>hl (by rw[e]))]
  refine PC.aj (T:=tbq) aZ bD rfl mixed Tryz.func136 rfl rfl (Nat.le_of_ble_eq_true rfl) ?_;intro Γ C WK LP fin h0 hW hC hB hR hLP hfin
  (try (conv=>whnf));(repeat ((first|refine qT ?_|refine qF ?_|refine qO ?_|(with_reducible intro z hz);(first|(replace hz:=hz (by omega);subst hz)|subst hz));(try (conv=>whnf))))
  exact hfin _ (aA.refl _)
 refine PC.aj (T:=tbq) aZ bD rfl mixed Tryz.func136 rfl rfl (Nat.le_of_ble_eq_true rfl) ?_;intro Γ C WK LP fin h0 hW hC hB hR hLP hfin
 (try (conv=>whnf));(repeat ((first|refine qT ?_|refine qF ?_|refine qO ?_|(with_reducible intro z hz);(first|(replace hz:=hz (by omega);subst hz)|subst hz));(try (conv=>whnf))))
 refine hLP _ _ _ Nat (fun k=>⟨[(0,.imm (.sl 4 (a.map wdv))),(1,.imm (.sl 4 (b.map wdv))),(5,.imm (.int .i64 (k:Nat)))],[]⟩) (fun k=>k≤a.length∧a.take k=b.take k) (fun k=>a.length - k) 0 ⟨Nat.zero_le _,by simp⟩ (qSL 0 rfl rfl (hE:=by (repeat ((conv=>whnf);first|exact trivial|refine And.intro (by first|exact av.any|exact av.eq (by with_reducible rfl) rfl|exact av.eq (congrArg (fun z=>PV.imm (IV.int IntKind.i64 z)) (by first|omega|(simp[hal];done)|(simp[hal];omega))) rfl|exact av.eq (by first|(simp[hal];done)|fail) rfl|exact av.eq rfl rfl|exact av.le rfl (ILe.nil _)) ?_)))) ?_
 rintro k ⟨hk,he⟩
 have hho:=Nat.lt_or_ge k a.length
 cases hho with
 |inl hlt=>
  obtain⟨x,hx⟩:∃x,a[k]?=some x:=⟨a[k],List.getElem?_eq_getElem hlt⟩
  obtain⟨y,hy⟩:∃y,b[k]?=some y:=⟨b[k],List.getElem?_eq_getElem (by omega)⟩
  have hi:=SC x y
  by_cases hxy:x=y
  ·rw[decide_eq_true hxy]at hi
   (try (conv=>whnf));(repeat ((first|refine qT ?_|refine qF ?_|refine qO ?_|(with_reducible intro z hz);(first|(replace hz:=hz (by omega);subst hz)|subst hz));(try (conv=>whnf))))
   refine Idx.mk k (wdv x) _ rfl (by simp[hx]) (by rw[BN x]) ?_
   (try (conv=>whnf));(repeat ((first|refine qT ?_|refine qF ?_|refine qO ?_|(with_reducible intro z hz);(first|(replace hz:=hz (by omega);subst hz)|subst hz));(try (conv=>whnf))))
   refine Idx.mk k (wdv y) _ rfl (by simp[hy]) (by rw[BN y]) ?_
   (try (conv=>whnf));(repeat ((first|refine qT ?_|refine qF ?_|refine qO ?_|(with_reducible intro z hz);(first|(replace hz:=hz (by omega);subst hz)|subst hz));(try (conv=>whnf))))
   exact⟨k+1,⟨by omega,by rw[take_at hx,take_at hy,he,hxy]⟩,by dsimp only;omega,(qSL 0 rfl rfl)⟩
  ·rw[decide_eq_false hxy]at hi
   have hi:=ne_true_of_eq_false hi
   rw[decide_eq_false (mg hx hy hxy)]at hfin
   (try (conv=>whnf));(repeat ((first|refine qT ?_|refine qF ?_|refine qO ?_|(with_reducible intro z hz);(first|(replace hz:=hz (by omega);subst hz)|subst hz));(try (conv=>whnf))))
   refine Idx.mk k (wdv x) _ rfl (by simp[hx]) (by rw[BN x]) ?_
   (try (conv=>whnf));(repeat ((first|refine qT ?_|refine qF ?_|refine qO ?_|(with_reducible intro z hz);(first|(replace hz:=hz (by omega);subst hz)|subst hz));(try (conv=>whnf))))
   refine Idx.mk k (wdv y) _ rfl (by simp[hy]) (by rw[BN y]) ?_
   (try (conv=>whnf));(repeat ((first|refine qT ?_|refine qF ?_|refine qO ?_|(with_reducible intro z hz);(first|(replace hz:=hz (by omega);subst hz)|subst hz));(try (conv=>whnf))))
   exact hfin _ (aA.refl _)
 |inr hge=>
  obtain rfl:k=a.length:=by omega
  rw[List.take_length,hl,List.take_length]at he
  rw[decide_eq_true he]at hfin
  (try (conv=>whnf));(repeat ((first|refine qT ?_|refine qF ?_|refine qO ?_|(with_reducible intro z hz);(first|(replace hz:=hz (by omega);subst hz)|subst hz));(try (conv=>whnf))))
  exact hfin _ (aA.refl _)
theorem CpU.len {u:Ut} (h:CpU u):u.head.length≤1000000000∧u.words.length≤1000000000∧u.kids.length≤1000000000:=by cases h;assumption
theorem CpU.kids {u:Ut} (h:CpU u):∀x∈u.kids,CpU x:=by cases h;assumption
theorem Ut.ext' {u v:Ut} (h1:u.id=v.id) (h2:u.kind=v.kind) (h3:u.label=v.label) (h4:u.head=v.head) (h5:u.words=v.words) (h6:u.kids=v.kids):u=v:=by
 cases u;cases v
 simp only[Ut.id,Ut.kind,Ut.label,Ut.head,Ut.words,Ut.kids]at *
 subst h1 h2 h3 h4 h5 h6
 rfl
theorem OC (u:Ut) (hu:CpU u):∀v:Ut,CpU v→PC Tryz.prog aM 93 [uv u,uv v] [.bool (decide (u=v))]:=by
 induction hu with
 |mk u h hk ih=>
 obtain⟨g1,g2,g3⟩:=h
 intro v hv
 obtain⟨k1,k2,k3⟩:=hv.len
 have hi:=RH u.id v.id
 have hH:=Fa u.head v.head g1 k1
 have hW1:=Fa u.words v.words g2 k2
 have hul:(u.kids.map uv).length=u.kids.length:=List.length_map _
 have hvl:(v.kids.map uv).length=v.kids.length:=List.length_map _
 rw[fO u,fO v]
 by_cases c1:u.id=v.id
 rotate_left
 ·rw[decide_eq_false (fun e=>c1 (by rw[e]))]
  rw[decide_eq_false c1]at hi
  have hi:=ne_true_of_eq_false hi
  refine PC.aj (T:=tbq) aZ bD rfl mixed Tryz.func93 rfl rfl (Nat.le_of_ble_eq_true rfl) ?_;intro Γ C WK LP fin h0 hW hC hB hR hLP hfin
  (try (conv=>whnf));(repeat ((first|refine qT ?_|refine qF ?_|refine qO ?_|(with_reducible intro z hz);(first|(replace hz:=hz (by omega);subst hz)|subst hz));(try (conv=>whnf))))
  exact hfin _ (aA.refl _)
 rw[decide_eq_true c1]at hi
 by_cases c2:u.kind=v.kind
 rotate_left
 ·rw[decide_eq_false (fun e=>c2 (by rw[e]))]
  refine PC.aj (T:=tbq) aZ bD rfl mixed Tryz.func93 rfl rfl (Nat.le_of_ble_eq_true rfl) ?_;intro Γ C WK LP fin h0 hW hC hB hR hLP hfin
  (try (conv=>whnf));(repeat ((first|refine qT ?_|refine qF ?_|refine qO ?_|(with_reducible intro z hz);(first|(replace hz:=hz (by omega);subst hz)|subst hz));(try (conv=>whnf))))
  exact hfin _ (aA.refl _)
 by_cases c3:u.label=v.label
 rotate_left
 ·rw[decide_eq_false (fun e=>c3 (by rw[e]))]
  refine PC.aj (T:=tbq) aZ bD rfl mixed Tryz.func93 rfl rfl (Nat.le_of_ble_eq_true rfl) ?_;intro Γ C WK LP fin h0 hW hC hB hR hLP hfin
  (try (conv=>whnf));(repeat ((first|refine qT ?_|refine qF ?_|refine qO ?_|(with_reducible intro z hz);(first|(replace hz:=hz (by omega);subst hz)|subst hz));(try (conv=>whnf))))
  exact hfin _ (aA.refl _)
 by_cases c4:u.head=v.head
 rotate_left
 ·rw[decide_eq_false (fun e=>c4 (by rw[e]))]
  rw[decide_eq_false c4]at hH
  refine PC.aj (T:=tbq) aZ bD rfl mixed Tryz.func93 rfl rfl (Nat.le_of_ble_eq_true rfl) ?_;intro Γ C WK LP fin h0 hW hC hB hR hLP hfin
  (try (conv=>whnf));(repeat ((first|refine qT ?_|refine qF ?_|refine qO ?_|(with_reducible intro z hz);(first|(replace hz:=hz (by omega);subst hz)|subst hz)|(refine ah.mk _ (hC _ _ _ (PCw.of hH)) (fun js hjs=>?_);subst hjs));(try (conv=>whnf))))
  exact hfin _ (aA.refl _)
 rw[decide_eq_true c4]at hH
 by_cases c5:u.words=v.words
 rotate_left
 ·rw[decide_eq_false (fun e=>c5 (by rw[e]))]
  rw[decide_eq_false c5]at hW1
  refine PC.aj (T:=tbq) aZ bD rfl mixed Tryz.func93 rfl rfl (Nat.le_of_ble_eq_true rfl) ?_;intro Γ C WK LP fin h0 hW hC hB hR hLP hfin
  (try (conv=>whnf));(repeat ((first|refine qT ?_|refine qF ?_|refine qO ?_|(with_reducible intro z hz);(first|(replace hz:=hz (by omega);subst hz)|subst hz)|(refine ah.mk _ (hC _ _ _ (PCw.of hH)) (fun js hjs=>?_);subst hjs)|(refine ah.mk _ (hC _ _ _ (PCw.of hW1)) (fun js hjs=>?_);subst hjs));(try (conv=>whnf))))
  exact hfin _ (aA.refl _)
 rw[decide_eq_true c5]at hW1
 by_cases c6:u.kids.length=v.kids.length
 rotate_left
 ·rw[decide_eq_false (fun e=>c6 (by rw[e]))]
  refine PC.aj (T:=tbq) aZ bD rfl mixed Tryz.func93 rfl rfl (Nat.le_of_ble_eq_true rfl) ?_;intro Γ C WK LP fin h0 hW hC hB hR hLP hfin
  (try (conv=>whnf));(repeat ((first|refine qT ?_|refine qF ?_|refine qO ?_|(with_reducible intro z hz);(first|(replace hz:=hz (by omega);subst hz)|subst hz)|(refine ah.mk _ (hC _ _ _ (PCw.of hH)) (fun js hjs=>?_);subst hjs)|(refine ah.mk _ (hC _ _ _ (PCw.of hW1)) (fun js hjs=>?_);subst hjs));(try (conv=>whnf))))
  exact hfin _ (aA.refl _)
 refine PC.aj (T:=tbq) aZ bD rfl mixed Tryz.func93 rfl rfl (Nat.le_of_ble_eq_true rfl) ?_;intro Γ C WK LP fin h0 hW hC hB hR hLP hfin
 (try (conv=>whnf));(repeat ((first|refine qT ?_|refine qF ?_|refine qO ?_|(with_reducible intro z hz);(first|(replace hz:=hz (by omega);subst hz)|subst hz)|(refine ah.mk _ (hC _ _ _ (PCw.of hH)) (fun js hjs=>?_);subst hjs)|(refine ah.mk _ (hC _ _ _ (PCw.of hW1)) (fun js hjs=>?_);subst hjs));(try (conv=>whnf))))
 refine hLP _ _ _ Nat (fun k=>⟨[(2,.ptr 0 1 0),(3,.ptr 1 1 0),(5,.imm (.int .i64 (k:Nat)))],[.box 1 [.imm (.int .i64 u.id.x),.imm (.int .i64 u.id.y),.imm (.int .i64 u.id.z),.imm (.int .i64 u.kind),.imm (.str u.label),.imm (.sl 4 (u.head.map wdv)),.imm (.sl 4 (u.words.map wdv)),.imm (.sl 8 (u.kids.map uv))],.box 1 [.imm (.int .i64 v.id.x),.imm (.int .i64 v.id.y),.imm (.int .i64 v.id.z),.imm (.int .i64 v.kind),.imm (.str v.label),.imm (.sl 4 (v.head.map wdv)),.imm (.sl 4 (v.words.map wdv)),.imm (.sl 8 (v.kids.map uv))]]⟩) (fun k=>k≤u.kids.length∧u.kids.take k=v.kids.take k) (fun k=>u.kids.length - k) 0 ⟨Nat.zero_le _,by simp⟩ (qSL 2 rfl rfl) ?_
 rintro k ⟨hkk,he⟩
 have hho:=Nat.lt_or_ge k u.kids.length
 cases hho with
 |inl hlt=>
  obtain⟨x,hx⟩:∃x,u.kids[k]?=some x:=⟨u.kids[k],List.getElem?_eq_getElem hlt⟩
  obtain⟨y,hy⟩:∃y,v.kids[k]?=some y:=⟨v.kids[k],List.getElem?_eq_getElem (by omega)⟩
  have hS:=ih x (List.mem_of_getElem? hx) y (hv.kids y (List.mem_of_getElem? hy))
  rw[fO x,fO y]at hS
  by_cases hxy:x=y
  ·rw[decide_eq_true hxy]at hS
   (try (conv=>whnf));(repeat ((first|refine qT ?_|refine qF ?_|refine qO ?_|(with_reducible intro z hz);(first|(replace hz:=hz (by omega);subst hz)|subst hz));(try (conv=>whnf))))
   refine Idx.mk k (uv x) _ rfl (by simp[hx]) (by rw[fO x]) ?_
   (try (conv=>whnf));(repeat ((first|refine qT ?_|refine qF ?_|refine qO ?_|(with_reducible intro z hz);(first|(replace hz:=hz (by omega);subst hz)|subst hz));(try (conv=>whnf))))
   refine Idx.mk k (uv y) _ rfl (by simp[hy]) (by rw[fO y]) ?_
   (try (conv=>whnf));(repeat ((first|refine qT ?_|refine qF ?_|refine qO ?_|(with_reducible intro z hz);(first|(replace hz:=hz (by omega);subst hz)|subst hz)|(refine ah.mk _ (hC _ _ _ (PCw.of hS)) (fun js hjs=>?_);subst hjs));(try (conv=>whnf))))
   exact⟨k+1,⟨by omega,by rw[take_at hx,take_at hy,he,hxy]⟩,by dsimp only;omega,(qSL 2 rfl rfl)⟩
  ·rw[decide_eq_false hxy]at hS
   rw[decide_eq_false (fun e=>mg hx hy hxy (by rw[e]))]at hfin
   (try (conv=>whnf));(repeat ((first|refine qT ?_|refine qF ?_|refine qO ?_|(with_reducible intro z hz);(first|(replace hz:=hz (by omega);subst hz)|subst hz));(try (conv=>whnf))))
   refine Idx.mk k (uv x) _ rfl (by simp[hx]) (by rw[fO x]) ?_
   (try (conv=>whnf));(repeat ((first|refine qT ?_|refine qF ?_|refine qO ?_|(with_reducible intro z hz);(first|(replace hz:=hz (by omega);subst hz)|subst hz));(try (conv=>whnf))))
   refine Idx.mk k (uv y) _ rfl (by simp[hy]) (by rw[fO y]) ?_
   (try (conv=>whnf));(repeat ((first|refine qT ?_|refine qF ?_|refine qO ?_|(with_reducible intro z hz);(first|(replace hz:=hz (by omega);subst hz)|subst hz)|(refine ah.mk _ (hC _ _ _ (PCw.of hS)) (fun js hjs=>?_);subst hjs));(try (conv=>whnf))))
   exact hfin _ (aA.refl _)
 |inr hge=>
  obtain rfl:k=u.kids.length:=by omega
  rw[List.take_length,c6,List.take_length]at he
  rw[decide_eq_true (Ut.ext' c1 c2 c3 c4 c5 he)]at hfin
  (try (conv=>whnf));(repeat ((first|refine qT ?_|refine qF ?_|refine qO ?_|(with_reducible intro z hz);(first|(replace hz:=hz (by omega);subst hz)|subst hz));(try (conv=>whnf))))
  exact hfin _ (aA.refl _)
end Go.Proofs.YtfjibfdelbodjaaGreat.Po
namespace Go.Proofs.YtfjibfdelbodjaaGreat.Po
open Go Go.Pv Go.RowKit
set_option linter.unusedSimpArgs false
open Lab Lcs Go.Proofs.YtfjibfdelbodjaaGreat Go.Proofs.YtfjibfdelbodjaaGreat.Pu
set_option maxRecDepth 10000
set_option maxHeartbeats 64000000
theorem CpI.len {x:It} (h:CpI x):CpU x.unit∧x.p.length≤1000000000∧x.q.length≤1000000000∧x.old.length≤1000000000∧x.new.length≤1000000000∧x.bys.length≤1000000000:=by cases h;exact⟨by assumption,by assumption⟩
theorem It.ext' {x y:It} (h0:x.kind=y.kind) (h1:x.p=y.p) (h2:x.q=y.q) (h3:x.z=y.z) (h4:x.nth=y.nth) (h5:x.unit=y.unit) (h6:x.old=y.old) (h7:x.new=y.new) (h8:x.lb=y.lb) (h9:x.fr=y.fr) (h10:x.sk=y.sk) (h11:x.sd=y.sd) (h12:x.se=y.se) (h13:x.a=y.a) (h14:x.i=y.i) (h15:x.d=y.d) (h16:x.ev=y.ev) (h17:x.bys=y.bys):x=y:=by
 cases x;cases y
 simp only[It.kind,It.p,It.q,It.z,It.nth,It.unit,It.old,It.new,It.lb,It.fr,It.sk,It.sd,It.se,It.a,It.i,It.d,It.ev,It.bys]at *
 subst h0 h1 h2 h3 h4 h5 h6 h7 h8 h9 h10 h11 h12 h13 h14 h15 h16 h17
 rfl
theorem Lv (x:It) (hx0:CpI x):∀y:It,CpI y→PC Tryz.prog aM 67 [itv x,itv y] [.bool (decide (x=y))]:=by
 induction hx0 with
 |mk x hu h hk ih=>
 obtain⟨g1,g2,g3,g4,g5⟩:=h
 intro y hy0
 obtain⟨hv,k1,k2,k3,k4,k5⟩:=hy0.len
 have hst:=Kq x.sk x.sd y.sk y.sd x.se y.se
 have h1:=FN x.p y.p g1 k1
 have h2:=FN x.q y.q g2 k2
 have h6:=Eo x.old y.old g3 k3
 have h7:=Eo x.new y.new g4 k4
 have h5:=OC x.unit hu y.unit hv
 rw[fO x.unit,fO y.unit]at h5
 have hxl:(x.bys.map itv).length=x.bys.length:=List.length_map _
 have hyl:(y.bys.map itv).length=y.bys.length:=List.length_map _
 rw[aR x,aR y]
 by_cases c0:x.kind=y.kind
 rotate_left
 ·rw[decide_eq_false (fun e=>c0 (by rw[e]))]
  refine PC.aj (T:=tbq) aZ bD rfl mixed Tryz.func67 rfl rfl (Nat.le_of_ble_eq_true rfl) ?_;intro Γ C WK LP fin h0 hW hC hB hR hLP hfin
  (try (conv=>whnf));(repeat ((first|refine qT ?_|refine qF ?_|refine qO ?_|(with_reducible intro z hz);(first|(replace hz:=hz (by omega);subst hz)|subst hz));(try (conv=>whnf))))
  exact hfin _ (aA.refl _)
 by_cases c1:x.z=y.z
 rotate_left
 ·rw[decide_eq_false (fun e=>c1 (by rw[e]))]
  refine PC.aj (T:=tbq) aZ bD rfl mixed Tryz.func67 rfl rfl (Nat.le_of_ble_eq_true rfl) ?_;intro Γ C WK LP fin h0 hW hC hB hR hLP hfin
  (try (conv=>whnf));(repeat ((first|refine qT ?_|refine qF ?_|refine qO ?_|(with_reducible intro z hz);(first|(replace hz:=hz (by omega);subst hz)|subst hz));(try (conv=>whnf))))
  exact hfin _ (aA.refl _)
 by_cases c2:x.nth=y.nth
 rotate_left
 ·rw[decide_eq_false (fun e=>c2 (by rw[e]))]
  refine PC.aj (T:=tbq) aZ bD rfl mixed Tryz.func67 rfl rfl (Nat.le_of_ble_eq_true rfl) ?_;intro Γ C WK LP fin h0 hW hC hB hR hLP hfin
  (try (conv=>whnf));(repeat ((first|refine qT ?_|refine qF ?_|refine qO ?_|(with_reducible intro z hz);(first|(replace hz:=hz (by omega);subst hz)|subst hz));(try (conv=>whnf))))
  exact hfin _ (aA.refl _)
 by_cases c3:x.lb=y.lb
 rotate_left
 ·rw[decide_eq_false (fun e=>c3 (by rw[e]))]
  refine PC.aj (T:=tbq) aZ bD rfl mixed Tryz.func67 rfl rfl (Nat.le_of_ble_eq_true rfl) ?_;intro Γ C WK LP fin h0 hW hC hB hR hLP hfin
  (try (conv=>whnf));(repeat ((first|refine qT ?_|refine qF ?_|refine qO ?_|(with_reducible intro z hz);(first|(replace hz:=hz (by omega);subst hz)|subst hz));(try (conv=>whnf))))
  exact hfin _ (aA.refl _)
 by_cases c4:x.fr=y.fr
 rotate_left
 ·rw[decide_eq_false (fun e=>c4 (by rw[e]))]
  refine PC.aj (T:=tbq) aZ bD rfl mixed Tryz.func67 rfl rfl (Nat.le_of_ble_eq_true rfl) ?_;intro Γ C WK LP fin h0 hW hC hB hR hLP hfin
  (try (conv=>whnf));(repeat ((first|refine qT ?_|refine qF ?_|refine qO ?_|(with_reducible intro z hz);(first|(replace hz:=hz (by omega);subst hz)|subst hz));(try (conv=>whnf))))
  exact hfin _ (aA.refl _)
 by_cases c5:x.sk=y.sk∧x.sd=y.sd∧x.se=y.se
 rotate_left
 ·rw[decide_eq_false (fun e=>c5 (by rw[e];exact⟨rfl,rfl,rfl⟩))]
  rw[decide_eq_false c5]at hst
  have hst:=ne_true_of_eq_false hst
  refine PC.aj (T:=tbq) aZ bD rfl mixed Tryz.func67 rfl rfl (Nat.le_of_ble_eq_true rfl) ?_;intro Γ C WK LP fin h0 hW hC hB hR hLP hfin
  (try (conv=>whnf));(repeat ((first|refine qT ?_|refine qF ?_|refine qO ?_|(with_reducible intro z hz);(first|(replace hz:=hz (by omega);subst hz)|subst hz));(try (conv=>whnf))))
  exact hfin _ (aA.refl _)
 rw[decide_eq_true c5]at hst
 obtain⟨d1,d2,d3⟩:=c5
 by_cases c6:x.a=y.a
 rotate_left
 ·rw[decide_eq_false (fun e=>c6 (by rw[e]))]
  refine PC.aj (T:=tbq) aZ bD rfl mixed Tryz.func67 rfl rfl (Nat.le_of_ble_eq_true rfl) ?_;intro Γ C WK LP fin h0 hW hC hB hR hLP hfin
  (try (conv=>whnf));(repeat ((first|refine qT ?_|refine qF ?_|refine qO ?_|(with_reducible intro z hz);(first|(replace hz:=hz (by omega);subst hz)|subst hz));(try (conv=>whnf))))
  exact hfin _ (aA.refl _)
 by_cases c7:x.i=y.i
 rotate_left
 ·rw[decide_eq_false (fun e=>c7 (by rw[e]))]
  refine PC.aj (T:=tbq) aZ bD rfl mixed Tryz.func67 rfl rfl (Nat.le_of_ble_eq_true rfl) ?_;intro Γ C WK LP fin h0 hW hC hB hR hLP hfin
  (try (conv=>whnf));(repeat ((first|refine qT ?_|refine qF ?_|refine qO ?_|(with_reducible intro z hz);(first|(replace hz:=hz (by omega);subst hz)|subst hz));(try (conv=>whnf))))
  exact hfin _ (aA.refl _)
 by_cases c8:x.d=y.d
 rotate_left
 ·rw[decide_eq_false (fun e=>c8 (by rw[e]))]
  refine PC.aj (T:=tbq) aZ bD rfl mixed Tryz.func67 rfl rfl (Nat.le_of_ble_eq_true rfl) ?_;intro Γ C WK LP fin h0 hW hC hB hR hLP hfin
  (try (conv=>whnf));(repeat ((first|refine qT ?_|refine qF ?_|refine qO ?_|(with_reducible intro z hz);(first|(replace hz:=hz (by omega);subst hz)|subst hz));(try (conv=>whnf))))
  exact hfin _ (aA.refl _)
 by_cases c9:x.ev=y.ev
 rotate_left
 ·rw[decide_eq_false (fun e=>c9 (by rw[e]))]
  refine PC.aj (T:=tbq) aZ bD rfl mixed Tryz.func67 rfl rfl (Nat.le_of_ble_eq_true rfl) ?_;intro Γ C WK LP fin h0 hW hC hB hR hLP hfin
  (try (conv=>whnf));(repeat ((first|refine qT ?_|refine qF ?_|refine qO ?_|(with_reducible intro z hz);(first|(replace hz:=hz (by omega);subst hz)|subst hz));(try (conv=>whnf))))
  exact hfin _ (aA.refl _)
 by_cases c10:x.p=y.p
 rotate_left
 ·rw[decide_eq_false (fun e=>c10 (by rw[e]))]
  rw[decide_eq_false c10]at h1
  refine PC.aj (T:=tbq) aZ bD rfl mixed Tryz.func67 rfl rfl (Nat.le_of_ble_eq_true rfl) ?_;intro Γ C WK LP fin h0 hW hC hB hR hLP hfin
  (try (conv=>whnf));(repeat ((first|refine qT ?_|refine qF ?_|refine qO ?_|(with_reducible intro z hz);(first|(replace hz:=hz (by omega);subst hz)|subst hz)|(refine ah.mk _ (hC _ _ _ (PCw.of h1)) (fun js hjs=>?_);subst hjs));(try (conv=>whnf))))
  exact hfin _ (aA.refl _)
 rw[decide_eq_true c10]at h1
 by_cases c11:x.q=y.q
 rotate_left
 ·rw[decide_eq_false (fun e=>c11 (by rw[e]))]
  rw[decide_eq_false c11]at h2
  refine PC.aj (T:=tbq) aZ bD rfl mixed Tryz.func67 rfl rfl (Nat.le_of_ble_eq_true rfl) ?_;intro Γ C WK LP fin h0 hW hC hB hR hLP hfin
  (try (conv=>whnf));(repeat ((first|refine qT ?_|refine qF ?_|refine qO ?_|(with_reducible intro z hz);(first|(replace hz:=hz (by omega);subst hz)|subst hz)|(refine ah.mk _ (hC _ _ _ (PCw.of h1)) (fun js hjs=>?_);subst hjs)|(refine ah.mk _ (hC _ _ _ (PCw.of h2)) (fun js hjs=>?_);subst hjs));(try (conv=>whnf))))
  exact hfin _ (aA.refl _)
 rw[decide_eq_true c11]at h2
 by_cases c12:x.old=y.old
 rotate_left
 ·rw[decide_eq_false (fun e=>c12 (by rw[e]))]
  rw[decide_eq_false c12]at h6
  refine PC.aj (T:=tbq) aZ bD rfl mixed Tryz.func67 rfl rfl (Nat.le_of_ble_eq_true rfl) ?_;intro Γ C WK LP fin h0 hW hC hB hR hLP hfin
  (try (conv=>whnf));(repeat ((first|refine qT ?_|refine qF ?_|refine qO ?_|(with_reducible intro z hz);(first|(replace hz:=hz (by omega);subst hz)|subst hz)|(refine ah.mk _ (hC _ _ _ (PCw.of h1)) (fun js hjs=>?_);subst hjs)|(refine ah.mk _ (hC _ _ _ (PCw.of h2)) (fun js hjs=>?_);subst hjs)|(refine ah.mk _ (hC _ _ _ (PCw.of h6)) (fun js hjs=>?_);subst hjs));(try (conv=>whnf))))
  exact hfin _ (aA.refl _)
 rw[decide_eq_true c12]at h6
 by_cases c13:x.new=y.new
 rotate_left
 ·rw[decide_eq_false (fun e=>c13 (by rw[e]))]
  rw[decide_eq_false c13]at h7
  refine PC.aj (T:=tbq) aZ bD rfl mixed Tryz.func67 rfl rfl (Nat.le_of_ble_eq_true rfl) ?_;intro Γ C WK LP fin h0 hW hC hB hR hLP hfin
  (try (conv=>whnf));(repeat ((first|refine qT ?_|refine qF ?_|refine qO ?_|(with_reducible intro z hz);(first|(replace hz:=hz (by omega);subst hz)|subst hz)|(refine ah.mk _ (hC _ _ _ (PCw.of h1)) (fun js hjs=>?_);subst hjs)|(refine ah.mk _ (hC _ _ _ (PCw.of h2)) (fun js hjs=>?_);subst hjs)|(refine ah.mk _ (hC _ _ _ (PCw.of h6)) (fun js hjs=>?_);subst hjs)|(refine ah.mk _ (hC _ _ _ (PCw.of h7)) (fun js hjs=>?_);subst hjs));(try (conv=>whnf))))
  exact hfin _ (aA.refl _)
 rw[decide_eq_true c13]at h7
 by_cases c14:x.unit=y.unit
 rotate_left
 ·rw[decide_eq_false (fun e=>c14 (by rw[e]))]
  rw[decide_eq_false c14]at h5
  refine PC.aj (T:=tbq) aZ bD rfl mixed Tryz.func67 rfl rfl (Nat.le_of_ble_eq_true rfl) ?_;intro Γ C WK LP fin h0 hW hC hB hR hLP hfin
  (try (conv=>whnf));(repeat ((first|refine qT ?_|refine qF ?_|refine qO ?_|(with_reducible intro z hz);(first|(replace hz:=hz (by omega);subst hz)|subst hz)|(refine ah.mk _ (hC _ _ _ (PCw.of h1)) (fun js hjs=>?_);subst hjs)|(refine ah.mk _ (hC _ _ _ (PCw.of h2)) (fun js hjs=>?_);subst hjs)|(refine ah.mk _ (hC _ _ _ (PCw.of h6)) (fun js hjs=>?_);subst hjs)|(refine ah.mk _ (hC _ _ _ (PCw.of h7)) (fun js hjs=>?_);subst hjs)|(refine ah.mk _ (hC _ _ _ (PCw.of h5)) (fun js hjs=>?_);subst hjs));(try (conv=>whnf))))
  exact hfin _ (aA.refl _)
 rw[decide_eq_true c14]at h5
 by_cases c15:x.bys.length=y.bys.length
 rotate_left
 ·rw[decide_eq_false (fun e=>c15 (by rw[e]))]
  refine PC.aj (T:=tbq) aZ bD rfl mixed Tryz.func67 rfl rfl (Nat.le_of_ble_eq_true rfl) ?_;intro Γ C WK LP fin h0 hW hC hB hR hLP hfin
  (try (conv=>whnf));(repeat ((first|refine qT ?_|refine qF ?_|refine qO ?_|(with_reducible intro z hz);(first|(replace hz:=hz (by omega);subst hz)|subst hz)|(refine ah.mk _ (hC _ _ _ (PCw.of h1)) (fun js hjs=>?_);subst hjs)|(refine ah.mk _ (hC _ _ _ (PCw.of h2)) (fun js hjs=>?_);subst hjs)|(refine ah.mk _ (hC _ _ _ (PCw.of h6)) (fun js hjs=>?_);subst hjs)|(refine ah.mk _ (hC _ _ _ (PCw.of h7)) (fun js hjs=>?_);subst hjs)|(refine ah.mk _ (hC _ _ _ (PCw.of h5)) (fun js hjs=>?_);subst hjs));(try (conv=>whnf))))
  exact hfin _ (aA.refl _)
 refine PC.aj (T:=tbq) aZ bD rfl mixed Tryz.func67 rfl rfl (Nat.le_of_ble_eq_true rfl) ?_;intro Γ C WK LP fin h0 hW hC hB hR hLP hfin
 (try (conv=>whnf));(repeat ((first|refine qT ?_|refine qF ?_|refine qO ?_|(with_reducible intro z hz);(first|(replace hz:=hz (by omega);subst hz)|subst hz)|(refine ah.mk _ (hC _ _ _ (PCw.of h1)) (fun js hjs=>?_);subst hjs)|(refine ah.mk _ (hC _ _ _ (PCw.of h2)) (fun js hjs=>?_);subst hjs)|(refine ah.mk _ (hC _ _ _ (PCw.of h6)) (fun js hjs=>?_);subst hjs)|(refine ah.mk _ (hC _ _ _ (PCw.of h7)) (fun js hjs=>?_);subst hjs)|(refine ah.mk _ (hC _ _ _ (PCw.of h5)) (fun js hjs=>?_);subst hjs));(try (conv=>whnf))))
 refine hLP _ _ _ Nat (fun k=>⟨[(2,.ptr 0 1 0),(3,.ptr 1 1 0),(5,.imm (.int .i64 (k:Nat)))],[.box 1 [.imm (.int .i64 x.kind),.imm (.sl 2 (x.p.map spv)),.imm (.sl 2 (x.q.map spv)),.imm (.int .i64 x.z),.imm (.int .i64 x.nth),.imm (.int .i64 x.unit.id.x),.imm (.int .i64 x.unit.id.y),.imm (.int .i64 x.unit.id.z),.imm (.int .i64 x.unit.kind),.imm (.str x.unit.label),.imm (.sl 4 (x.unit.head.map wdv)),.imm (.sl 4 (x.unit.words.map wdv)),.imm (.sl 8 (x.unit.kids.map uv)),.imm (.sl 1 (x.old.map IV.str)),.imm (.sl 1 (x.new.map IV.str)),.imm (.str x.lb),.imm (.str x.fr),.imm (.int .i64 x.sk),.imm (.int .i64 x.sd),.imm (.str x.se),.imm (.int .i64 x.a),.imm (.int .i64 x.i),.imm (.int .i64 x.d),.imm (.str x.ev),.imm (.sl 25 (x.bys.map itv))],.box 1 [.imm (.int .i64 y.kind),.imm (.sl 2 (y.p.map spv)),.imm (.sl 2 (y.q.map spv)),.imm (.int .i64 y.z),.imm (.int .i64 y.nth),.imm (.int .i64 y.unit.id.x),.imm (.int .i64 y.unit.id.y),.imm (.int .i64 y.unit.id.z),.imm (.int .i64 y.unit.kind),.imm (.str y.unit.label),.imm (.sl 4 (y.unit.head.map wdv)),.imm (.sl 4 (y.unit.words.map wdv)),.imm (.sl 8 (y.unit.kids.map uv)),.imm (.sl 1 (y.old.map IV.str)),.imm (.sl 1 (y.new.map IV.str)),.imm (.str y.lb),.imm (.str y.fr),.imm (.int .i64 y.sk),.imm (.int .i64 y.sd),.imm (.str y.se),.imm (.int .i64 y.a),.imm (.int .i64 y.i),.imm (.int .i64 y.d),.imm (.str y.ev),.imm (.sl 25 (y.bys.map itv))]]⟩) (fun k=>k≤x.bys.length∧x.bys.take k=y.bys.take k) (fun k=>x.bys.length - k) 0 ⟨Nat.zero_le _,by simp⟩ (qSL 2 rfl rfl) ?_
 rintro k ⟨hkk,he⟩
 have hho:=Nat.lt_or_ge k x.bys.length
 cases hho with
 |inl hlt=>
  obtain⟨u,hu⟩:∃u,x.bys[k]?=some u:=⟨x.bys[k],List.getElem?_eq_getElem hlt⟩
  obtain⟨v,hv⟩:∃v,y.bys[k]?=some v:=⟨y.bys[k],List.getElem?_eq_getElem (by omega)⟩
  have hS:=ih u (List.mem_of_getElem? hu) v (hy0.by v (List.mem_of_getElem? hv))
  rw[aR u,aR v]at hS
  by_cases huv:u=v
  ·rw[decide_eq_true huv]at hS
   (try (conv=>whnf));(repeat ((first|refine qT ?_|refine qF ?_|refine qO ?_|(with_reducible intro z hz);(first|(replace hz:=hz (by omega);subst hz)|subst hz));(try (conv=>whnf))))
   refine Idx.mk k (itv u) _ rfl (by simp[hu]) (by rw[aR u]) ?_
   (try (conv=>whnf));(repeat ((first|refine qT ?_|refine qF ?_|refine qO ?_|(with_reducible intro z hz);(first|(replace hz:=hz (by omega);subst hz)|subst hz));(try (conv=>whnf))))
   refine Idx.mk k (itv v) _ rfl (by simp[hv]) (by rw[aR v]) ?_
   (try (conv=>whnf));(repeat ((first|refine qT ?_|refine qF ?_|refine qO ?_|(with_reducible intro z hz);(first|(replace hz:=hz (by omega);subst hz)|subst hz)|(refine ah.mk _ (hC _ _ _ (PCw.of hS)) (fun js hjs=>?_);subst hjs));(try (conv=>whnf))))
   exact⟨k+1,⟨by omega,by rw[take_at hu,take_at hv,he,huv]⟩,by dsimp only;omega,(qSL 2 rfl rfl)⟩
  ·rw[decide_eq_false huv]at hS
   rw[decide_eq_false (fun e=>mg hu hv huv (by rw[e]))]at hfin
   (try (conv=>whnf));(repeat ((first|refine qT ?_|refine qF ?_|refine qO ?_|(with_reducible intro z hz);(first|(replace hz:=hz (by omega);subst hz)|subst hz));(try (conv=>whnf))))
   refine Idx.mk k (itv u) _ rfl (by simp[hu]) (by rw[aR u]) ?_
   (try (conv=>whnf));(repeat ((first|refine qT ?_|refine qF ?_|refine qO ?_|(with_reducible intro z hz);(first|(replace hz:=hz (by omega);subst hz)|subst hz));(try (conv=>whnf))))
   refine Idx.mk k (itv v) _ rfl (by simp[hv]) (by rw[aR v]) ?_
   (try (conv=>whnf));(repeat ((first|refine qT ?_|refine qF ?_|refine qO ?_|(with_reducible intro z hz);(first|(replace hz:=hz (by omega);subst hz)|subst hz)|(refine ah.mk _ (hC _ _ _ (PCw.of hS)) (fun js hjs=>?_);subst hjs));(try (conv=>whnf))))
   exact hfin _ (aA.refl _)
 |inr hge=>
  obtain rfl:k=x.bys.length:=by omega
  rw[List.take_length,c15,List.take_length]at he
  rw[decide_eq_true (It.ext' c0 c10 c11 c1 c2 c14 c12 c13 c3 c4 d1 d2 d3 c6 c7 c8 c9 he)]at hfin
  (try (conv=>whnf));(repeat ((first|refine qT ?_|refine qF ?_|refine qO ?_|(with_reducible intro z hz);(first|(replace hz:=hz (by omega);subst hz)|subst hz));(try (conv=>whnf))))
  exact hfin _ (aA.refl _)
theorem Ei.ext' {a b:Ei} (h1:a.act=b.act) (h2:a.item=b.item) (h3:a.day=b.day) (h4:a.it=b.it):a=b:=by
 cases a;cases b
 simp only at h1 h2 h3 h4
 subst h1 h2 h3 h4
 rfl
theorem Kz (a b:Ei) (ha:CpI a.it) (hb:CpI b.it):PC Tryz.prog aM 40 [eiv a,eiv b] [.bool (decide (a=b))]:=by
 have hS:=Lv a.it ha b.it hb
 rw[aR a.it,aR b.it]at hS
 rw[fq a,fq b]
 by_cases c1:a.act=b.act
 rotate_left
 ·rw[decide_eq_false (fun e=>c1 (by rw[e]))]
  refine PC.aj (T:=tbq) aZ bD rfl mixed Tryz.func40 rfl rfl (Nat.le_of_ble_eq_true rfl) ?_;intro Γ C WK LP fin h0 hW hC hB hR hLP hfin
  (try (conv=>whnf));(repeat ((first|refine qT ?_|refine qF ?_|refine qO ?_|(with_reducible intro z hz);(first|(replace hz:=hz (by omega);subst hz)|subst hz));(try (conv=>whnf))))
  exact hfin _ (aA.refl _)
 by_cases c2:a.item=b.item
 rotate_left
 ·rw[decide_eq_false (fun e=>c2 (by rw[e]))]
  refine PC.aj (T:=tbq) aZ bD rfl mixed Tryz.func40 rfl rfl (Nat.le_of_ble_eq_true rfl) ?_;intro Γ C WK LP fin h0 hW hC hB hR hLP hfin
  (try (conv=>whnf));(repeat ((first|refine qT ?_|refine qF ?_|refine qO ?_|(with_reducible intro z hz);(first|(replace hz:=hz (by omega);subst hz)|subst hz));(try (conv=>whnf))))
  exact hfin _ (aA.refl _)
 by_cases c3:a.day=b.day
 rotate_left
 ·rw[decide_eq_false (fun e=>c3 (by rw[e]))]
  refine PC.aj (T:=tbq) aZ bD rfl mixed Tryz.func40 rfl rfl (Nat.le_of_ble_eq_true rfl) ?_;intro Γ C WK LP fin h0 hW hC hB hR hLP hfin
  (try (conv=>whnf));(repeat ((first|refine qT ?_|refine qF ?_|refine qO ?_|(with_reducible intro z hz);(first|(replace hz:=hz (by omega);subst hz)|subst hz));(try (conv=>whnf))))
  exact hfin _ (aA.refl _)
 have hd:decide (a=b)=decide (a.it=b.it):=by
  by_cases c4:a.it=b.it
  ·rw[decide_eq_true c4,decide_eq_true (Ei.ext' c1 c2 c3 c4)]
  ·rw[decide_eq_false c4,decide_eq_false (fun e=>c4 (by rw[e]))]
 rw[hd]
 generalize decide (a.it=b.it)=t at *
 refine PC.aj (T:=tbq) aZ bD rfl mixed Tryz.func40 rfl rfl (Nat.le_of_ble_eq_true rfl) ?_;intro Γ C WK LP fin h0 hW hC hB hR hLP hfin
 (try (conv=>whnf));(repeat ((first|refine qT ?_|refine qF ?_|refine qO ?_|(with_reducible intro z hz);(first|(replace hz:=hz (by omega);subst hz)|subst hz)|(refine ah.mk _ (hC _ _ _ (PCw.of hS)) (fun js hjs=>?_);subst hjs));(try (conv=>whnf))))
 exact hfin _ (aA.refl _)
theorem Lr (a b:List Ei) (_:a.length≤1000000000) (hb:b.length≤1000000000) (ha':∀x∈a,CpI x.it) (hb':∀x∈b,CpI x.it):PC Tryz.prog aM 16 [.sl 28 (a.map eiv),.sl 28 (b.map eiv)] [.bool (decide (a=b))]:=by
 have hal:(a.map eiv).length=a.length:=List.length_map _
 have hbl:(b.map eiv).length=b.length:=List.length_map _
 by_cases hl:a.length=b.length
 rotate_left
 ·rw[decide_eq_false (fun e=>hl (by rw[e]))]
  refine PC.aj (T:=tbq) aZ bD rfl mixed Tryz.func16 rfl rfl (Nat.le_of_ble_eq_true rfl) ?_;intro Γ C WK LP fin h0 hW hC hB hR hLP hfin
  (try (conv=>whnf));(repeat ((first|refine qT ?_|refine qF ?_|refine qO ?_|(with_reducible intro z hz);(first|(replace hz:=hz (by omega);subst hz)|subst hz));(try (conv=>whnf))))
  exact hfin _ (aA.refl _)
 refine PC.aj (T:=tbq) aZ bD rfl mixed Tryz.func16 rfl rfl (Nat.le_of_ble_eq_true rfl) ?_;intro Γ C WK LP fin h0 hW hC hB hR hLP hfin
 (try (conv=>whnf));(repeat ((first|refine qT ?_|refine qF ?_|refine qO ?_|(with_reducible intro z hz);(first|(replace hz:=hz (by omega);subst hz)|subst hz));(try (conv=>whnf))))
 refine hLP _ _ _ Nat (fun k=>⟨[(0,.imm (.sl 28 (a.map eiv))),(1,.imm (.sl 28 (b.map eiv))),(5,.imm (.int .i64 (k:Nat)))],[]⟩) (fun k=>k≤a.length∧a.take k=b.take k) (fun k=>a.length - k) 0 ⟨Nat.zero_le _,by simp⟩ (qSL 0 rfl rfl (hE:=by (repeat ((conv=>whnf);first|exact trivial|refine And.intro (by first|exact av.any|exact av.eq (by with_reducible rfl) rfl|exact av.eq (congrArg (fun z=>PV.imm (IV.int IntKind.i64 z)) (by first|omega|(simp[hal];done)|(simp[hal];omega))) rfl|exact av.eq (by first|(simp[hal];done)|fail) rfl|exact av.eq rfl rfl|exact av.le rfl (ILe.nil _)) ?_)))) ?_
 rintro k ⟨hk,he⟩
 have hho:=Nat.lt_or_ge k a.length
 cases hho with
 |inl hlt=>
  obtain⟨x,hx⟩:∃x,a[k]?=some x:=⟨a[k],List.getElem?_eq_getElem hlt⟩
  obtain⟨y,hy⟩:∃y,b[k]?=some y:=⟨b[k],List.getElem?_eq_getElem (by omega)⟩
  have hS:=Kz x y (ha' x (List.mem_of_getElem? hx)) (hb' y (List.mem_of_getElem? hy))
  rw[fq x,fq y]at hS
  by_cases hxy:x=y
  ·rw[decide_eq_true hxy]at hS
   (try (conv=>whnf));(repeat ((first|refine qT ?_|refine qF ?_|refine qO ?_|(with_reducible intro z hz);(first|(replace hz:=hz (by omega);subst hz)|subst hz));(try (conv=>whnf))))
   refine Idx.mk k (eiv x) _ rfl (by simp[hx]) rfl ?_
   (try (conv=>whnf));(repeat ((first|refine qT ?_|refine qF ?_|refine qO ?_|(with_reducible intro z hz);(first|(replace hz:=hz (by omega);subst hz)|subst hz));(try (conv=>whnf))))
   refine Idx.mk k (eiv y) _ rfl (by simp[hy]) rfl ?_
   (try (conv=>whnf));(repeat ((first|refine qT ?_|refine qF ?_|refine qO ?_|(with_reducible intro z hz);(first|(replace hz:=hz (by omega);subst hz)|subst hz)|(refine ah.mk _ (hC _ _ _ (PCw.of hS)) (fun js hjs=>?_);subst hjs));(try (conv=>whnf))))
   exact⟨k+1,⟨by omega,by rw[take_at hx,take_at hy,he,hxy]⟩,by dsimp only;omega,(qSL 0 rfl rfl)⟩
  ·rw[decide_eq_false hxy]at hS
   rw[decide_eq_false (mg hx hy hxy)]at hfin
   (try (conv=>whnf));(repeat ((first|refine qT ?_|refine qF ?_|refine qO ?_|(with_reducible intro z hz);(first|(replace hz:=hz (by omega);subst hz)|subst hz));(try (conv=>whnf))))
   refine Idx.mk k (eiv x) _ rfl (by simp[hx]) rfl ?_
   (try (conv=>whnf));(repeat ((first|refine qT ?_|refine qF ?_|refine qO ?_|(with_reducible intro z hz);(first|(replace hz:=hz (by omega);subst hz)|subst hz));(try (conv=>whnf))))
   refine Idx.mk k (eiv y) _ rfl (by simp[hy]) rfl ?_
   (try (conv=>whnf));(repeat ((first|refine qT ?_|refine qF ?_|refine qO ?_|(with_reducible intro z hz);(first|(replace hz:=hz (by omega);subst hz)|subst hz)|(refine ah.mk _ (hC _ _ _ (PCw.of hS)) (fun js hjs=>?_);subst hjs));(try (conv=>whnf))))
   exact hfin _ (aA.refl _)
 |inr hge=>
  obtain rfl:k=a.length:=by omega
  rw[List.take_length,hl,List.take_length]at he
  rw[decide_eq_true he]at hfin
  (try (conv=>whnf));(repeat ((first|refine qT ?_|refine qF ?_|refine qO ?_|(with_reducible intro z hz);(first|(replace hz:=hz (by omega);subst hz)|subst hz));(try (conv=>whnf))))
  exact hfin _ (aA.refl _)
end Go.Proofs.YtfjibfdelbodjaaGreat.Po
