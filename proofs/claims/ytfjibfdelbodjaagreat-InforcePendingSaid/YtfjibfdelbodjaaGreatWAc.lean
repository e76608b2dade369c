/-
  The day of an event, effective starts, few items; by the program and by the reference.
-/
import Derived.Test.YtfjibfdelbodjaaGreatNa
namespace Go.Proofs.YtfjibfdelbodjaaGreat.Pe
open Go Go.Pv Go.RowKit
set_option linter.unusedSimpArgs false
set_option maxRecDepth 10000
set_option maxHeartbeats 16000000
def idxOf {α:Type} (p:α→Bool) (l:List α):Int:=if l.any p then ((l.findIdx p:Nat):Int) else -1
theorem idxOf_hit {α:Type} {p:α→Bool} {l:List α} {k:Nat} {x:α} (hx:l[k]?=some x) (h:p x=true) (hp:∀y∈l.take k,p y=false):idxOf p l=k:=by
 unfold idxOf
 rw[if_pos (List.any_eq_true.2 ⟨x,List.mem_of_getElem? hx,h⟩)]
 obtain⟨hk,he⟩:=List.getElem?_eq_some_iff.1 hx
 congr 1
 refine (List.findIdx_eq hk).2 ⟨by rw[he];exact h,fun j hj=>?_⟩
 have:l[j]∈l.take k:=by rw[List.mem_take_iff_getElem];exact⟨j,by omega,rfl⟩
 exact hp _ this
theorem jN {α:Type} {p:α→Bool} {l:List α} (hp:∀y∈l,p y=false):idxOf p l=-1:=by
 unfold idxOf
 rw[if_neg]
 intro h
 obtain⟨x,hx,he⟩:=List.any_eq_true.1 h
 rw[hp x hx]at he
 cases he
theorem qN {α:Type} (p:α→Bool):∀l:List α,(∀y∈l,p y=false)∧l.find? p=none∨∃k x,l[k]?=some x∧p x=true∧(∀y∈l.take k,p y=false)∧l.find? p=some x
 |[]=>Or.inl ⟨(fun _ h=>by cases h),rfl⟩
 |a::l=>by
  cases ha:p a with
  |true=>exact Or.inr ⟨0,a,rfl,ha,(fun _ h=>by simp at h),by simp[ha]⟩
  |false=>
   rcases qN p l with ⟨h1,h2⟩|⟨k,x,h1,h2,h3,h4⟩
   ·refine Or.inl ⟨fun y hy=>?_,by rw[List.find?_cons,ha];exact h2⟩
    rcases List.mem_cons.1 hy with rfl|hy
    ·exact ha
    ·exact h1 y hy
   ·refine Or.inr ⟨k+1,x,by simpa using h1,h2,fun y hy=>?_,by rw[List.find?_cons,ha];exact h4⟩
    rw[List.take_succ_cons]at hy
    rcases List.mem_cons.1 hy with rfl|hy
    ·exact ha
    ·exact h3 y hy
def dq (name:Str) (e:En):Bool:=decide (e.it.kind=10)&&decide (e.it.ev=name)
def evD (name:Str) (l:List En):Option Int:=(l.find? (dq name)).map fun e=>e.it.d
theorem QV (name:Str) (e:En):PCB Tryz.prog aM 195 [.imm (cu e),.ptr 0 1 0] [.box 1 [.imm (.str name)]] [.imm (.bool (dq name e))] [.box 1 [.imm (.str name)]]:=by
 unfold cu dq
 by_cases h1:e.it.kind=10
 ·rw[decide_eq_true h1,Bool.true_and]
  by_cases h2:e.it.ev=name
  ·rw[decide_eq_true h2]
   refine PCB.aj (T:=tb0) ay aH rfl mixed Tryz.func195 rfl rfl rfl (Nat.le_of_ble_eq_true rfl) rfl ?_;intro Γ C WK LP fin h0 hk0 hW hC hB hR hLP hfin
   (try (conv=>whnf));(repeat ((first|refine qT ?_|refine qF ?_|refine qO ?_|(with_reducible intro z hz);(first|(replace hz:=hz (by omega);subst hz)|subst hz));(try (conv=>whnf))))
   exact hfin _ (qSL 1 rfl rfl)
  ·rw[decide_eq_false h2]
   refine PCB.aj (T:=tb0) ay aH rfl mixed Tryz.func195 rfl rfl rfl (Nat.le_of_ble_eq_true rfl) rfl ?_;intro Γ C WK LP fin h0 hk0 hW hC hB hR hLP hfin
   (try (conv=>whnf));(repeat ((first|refine qT ?_|refine qF ?_|refine qO ?_|(with_reducible intro z hz);(first|(replace hz:=hz (by omega);subst hz)|subst hz));(try (conv=>whnf))))
   exact hfin _ (qSL 1 rfl rfl)
 ·rw[decide_eq_false h1,Bool.false_and]
  refine PCB.aj (T:=tb0) ay aH rfl mixed Tryz.func195 rfl rfl rfl (Nat.le_of_ble_eq_true rfl) rfl ?_;intro Γ C WK LP fin h0 hk0 hW hC hB hR hLP hfin
  (try (conv=>whnf));(repeat ((first|refine qT ?_|refine qF ?_|refine qO ?_|(with_reducible intro z hz);(first|(replace hz:=hz (by omega);subst hz)|subst hz));(try (conv=>whnf))))
  exact hfin _ (qSL 1 rfl rfl)
theorem Sz (name:Str) (l:List En) (hl:l.length≤1000000000):PCB Tryz.prog aM 194 [.imm (.sl 28 (l.map cu)),.clo 195 [.ptr 0 1 0]] [.box 1 [.imm (.str name)]] [.imm (.int .i64 (idxOf (dq name) l))] [.box 1 [.imm (.str name)]]:=by
 have hml:(l.map cu).length=l.length:=List.length_map _
 refine PCB.aj (T:=tb0) ay aH rfl mixed Tryz.func194 rfl rfl rfl (Nat.le_of_ble_eq_true rfl) rfl ?_;intro Γ C WK LP fin h0 hk0 hW hC hB hR hLP hfin
 (try (conv=>whnf));(repeat ((first|refine qT ?_|refine qF ?_|refine qO ?_|(with_reducible intro z hz);(first|(replace hz:=hz (by omega);subst hz)|subst hz));(try (conv=>whnf))))
 refine hLP _ _ _ Nat (fun k=>⟨[(0,.imm (.sl 28 (l.map cu))),(1,.clo 195 [.ptr 0 1 0]),(7,.imm (.int .i64 (l.length:Nat))),(8,.imm (.int .i64 (k:Nat)))],[.box 1 [.imm (.str name)]]⟩) (fun k=>k≤l.length∧∀x∈l.take k,dq name x=false) (fun k=>l.length - k) 0 ⟨Nat.zero_le _,by simp⟩ (qSL 1 rfl rfl (hE:=by (repeat ((conv=>whnf);first|exact trivial|refine And.intro (by first|exact av.any|exact av.eq (by with_reducible rfl) rfl|exact av.eq (congrArg (fun z=>PV.imm (IV.int IntKind.i64 z)) (by first|omega|(simp[hml];done)|(simp[hml];omega))) rfl|exact av.eq (by first|(simp[hml];done)|fail) rfl|exact av.eq rfl rfl|exact av.le rfl (ILe.nil _)) ?_)))) ?_
 rintro k ⟨hk,hp⟩
 have hho:=Nat.lt_or_ge k l.length
 cases hho with
 |inl hlt=>
  obtain⟨x,hx⟩:∃x,l[k]?=some x:=⟨l[k],List.getElem?_eq_getElem hlt⟩
  have hI:=QV name x
  obtain⟨b,hq⟩:∃b,dq name x=b:=⟨_,rfl⟩
  rw[hq]at hI
  unfold cu at hI
  cases b
  ·(try (conv=>whnf));(repeat ((first|refine qT ?_|refine qF ?_|refine qO ?_|(with_reducible intro z hz);(first|(replace hz:=hz (by omega);subst hz)|subst hz));(try (conv=>whnf))))
   refine Idx.mk k (cu x) _ rfl (by simp[hx]) rfl ?_
   (try (conv=>whnf));(repeat ((first|refine qT ?_|refine qF ?_|refine qO ?_|(with_reducible intro z hz);(first|(replace hz:=hz (by omega);subst hz)|subst hz));(try (conv=>whnf))))
   refine bV.mk ([.imm (.bool false)]) ([.box 1 [.imm (.str name)]]) (hB _ _ _ _ _ (hI)) ?_
   (try (conv=>whnf));(repeat ((first|refine qT ?_|refine qF ?_|refine qO ?_|(with_reducible intro z hz);(first|(replace hz:=hz (by omega);subst hz)|subst hz));(try (conv=>whnf))))
   exact⟨k+1,⟨by omega,fun y hy=>by
    rw[take_at hx,List.mem_append]at hy
    rcases hy with hy|hy
    ·exact hp y hy
    ·rw[List.mem_singleton.1 hy];exact hq⟩,by dsimp only;omega,(qSL 1 rfl rfl)⟩
  ·(try (conv=>whnf));(repeat ((first|refine qT ?_|refine qF ?_|refine qO ?_|(with_reducible intro z hz);(first|(replace hz:=hz (by omega);subst hz)|subst hz));(try (conv=>whnf))))
   refine Idx.mk k (cu x) _ rfl (by simp[hx]) rfl ?_
   (try (conv=>whnf));(repeat ((first|refine qT ?_|refine qF ?_|refine qO ?_|(with_reducible intro z hz);(first|(replace hz:=hz (by omega);subst hz)|subst hz));(try (conv=>whnf))))
   refine bV.mk ([.imm (.bool true)]) ([.box 1 [.imm (.str name)]]) (hB _ _ _ _ _ (hI)) ?_
   (try (conv=>whnf));(repeat ((first|refine qT ?_|refine qF ?_|refine qO ?_|(with_reducible intro z hz);(first|(replace hz:=hz (by omega);subst hz)|subst hz));(try (conv=>whnf))))
   rw[idxOf_hit hx hq hp]at hfin
   exact hfin _ (qSL 1 rfl rfl)
 |inr hge=>
  (try (conv=>whnf));(repeat ((first|refine qT ?_|refine qF ?_|refine qO ?_|(with_reducible intro z hz);(first|(replace hz:=hz (by omega);subst hz)|subst hz));(try (conv=>whnf))))
  obtain rfl:k=l.length:=by omega
  rw[List.take_length]at hp
  rw[jN hp]at hfin
  exact hfin _ (qSL 1 rfl rfl)
theorem D8 (name:Str) (l:List En) (hl:l.length≤1000000000):PC Tryz.prog aM 170 [.str name,.sl 28 (l.map cu)] [.int .i64 ((evD name l).getD 0),.bool (evD name l).isSome]:=by
 have hml:(l.map cu).length=l.length:=List.length_map _
 have hI:=Sz name l hl
 unfold evD
 rcases qN (dq name) l with ⟨h1,h2⟩|⟨k,x,h1,h2,h3,h4⟩
 ·rw[jN h1]at hI
  rw[h2]
  refine PC.aj (T:=tb0) ay aH rfl mixed Tryz.func170 rfl rfl (Nat.le_of_ble_eq_true rfl) ?_;intro Γ C WK LP fin h0 hW hC hB hR hLP hfin
  (try (conv=>whnf));(repeat ((first|refine qT ?_|refine qF ?_|refine qO ?_|(with_reducible intro z hz);(first|(replace hz:=hz (by omega);subst hz)|subst hz));(try (conv=>whnf))))
  refine bV.mk ([.imm (.int .i64 (-1))]) ([.box 1 [.imm (.str name)]]) (hB _ _ _ _ _ (hI)) ?_
  (try (conv=>whnf));(repeat ((first|refine qT ?_|refine qF ?_|refine qO ?_|(with_reducible intro z hz);(first|(replace hz:=hz (by omega);subst hz)|subst hz));(try (conv=>whnf))))
  exact hfin _ (aA.refl _)
 ·rw[idxOf_hit h1 h2 h3]at hI
  have hk:=(List.getElem?_eq_some_iff.1 h1).1
  rw[h4]
  refine PC.aj (T:=tb0) ay aH rfl mixed Tryz.func170 rfl rfl (Nat.le_of_ble_eq_true rfl) ?_;intro Γ C WK LP fin h0 hW hC hB hR hLP hfin
  (try (conv=>whnf));(repeat ((first|refine qT ?_|refine qF ?_|refine qO ?_|(with_reducible intro z hz);(first|(replace hz:=hz (by omega);subst hz)|subst hz));(try (conv=>whnf))))
  refine bV.mk ([.imm (.int .i64 (k:Nat))]) ([.box 1 [.imm (.str name)]]) (hB _ _ _ _ _ (hI)) ?_
  (try (conv=>whnf));(repeat ((first|refine qT ?_|refine qF ?_|refine qO ?_|(with_reducible intro z hz);(first|(replace hz:=hz (by omega);subst hz)|subst hz));(try (conv=>whnf))))
  refine Idx.mk k (cu x) _ rfl (by simp[h1]) rfl ?_
  (try (conv=>whnf));(repeat ((first|refine qT ?_|refine qF ?_|refine qO ?_|(with_reducible intro z hz);(first|(replace hz:=hz (by omega);subst hz)|subst hz));(try (conv=>whnf))))
  exact hfin _ (aA.refl _)
theorem Ng (name:Str) (l:List En) (hl:l.length≤1000000000):PC Tryz.prog aM 134 [.str name,.sl 28 (l.map cu)] [.int .i64 ((evD name l).getD 0),.bool (evD name l).isSome]:=by
 have hml:(l.map cu).length=l.length:=List.length_map _
 refine PC.aj (T:=tb0) ay aH rfl mixed Tryz.func134 rfl rfl (Nat.le_of_ble_eq_true rfl) ?_;intro Γ C WK LP fin h0 hW hC hB hR hLP hfin
 (try (conv=>whnf));(repeat ((first|refine qT ?_|refine qF ?_|refine qO ?_|(with_reducible intro z hz);(first|(replace hz:=hz (by omega);subst hz)|subst hz));(try (conv=>whnf))))
 refine hLP _ _ _ Nat (fun k=>⟨[(0,.imm (.str name)),(1,.imm (.sl 28 (l.map cu))),(6,.imm (.int .i64 (k:Nat)))],[]⟩) (fun k=>k≤l.length∧∀x∈l.take k,dq name x=false) (fun k=>l.length - k) 0 ⟨Nat.zero_le _,by simp⟩ (qSL 0 rfl rfl) ?_
 rintro k ⟨hk,hp⟩
 have hho:=Nat.lt_or_ge k l.length
 cases hho with
 |inl hlt=>
  obtain⟨x,hx⟩:∃x,l[k]?=some x:=⟨l[k],List.getElem?_eq_getElem hlt⟩
  by_cases h1:x.it.kind=10
  ·by_cases h2:x.it.ev=name
   ·have hq:dq name x=true:=by unfold dq;rw[decide_eq_true h1,decide_eq_true h2];rfl
    (try (conv=>whnf));(repeat ((first|refine qT ?_|refine qF ?_|refine qO ?_|(with_reducible intro z hz);(first|(replace hz:=hz (by omega);subst hz)|subst hz));(try (conv=>whnf))))
    refine Idx.mk k (cu x) _ rfl (by simp[hx]) rfl ?_
    (try (conv=>whnf));(repeat ((first|refine qT ?_|refine qF ?_|refine qO ?_|(with_reducible intro z hz);(first|(replace hz:=hz (by omega);subst hz)|subst hz));(try (conv=>whnf))))
    refine Idx.mk k (cu x) _ rfl (by simp[hx]) rfl ?_
    (try (conv=>whnf));(repeat ((first|refine qT ?_|refine qF ?_|refine qO ?_|(with_reducible intro z hz);(first|(replace hz:=hz (by omega);subst hz)|subst hz));(try (conv=>whnf))))
    refine Idx.mk k (cu x) _ rfl (by simp[hx]) rfl ?_
    (try (conv=>whnf));(repeat ((first|refine qT ?_|refine qF ?_|refine qO ?_|(with_reducible intro z hz);(first|(replace hz:=hz (by omega);subst hz)|subst hz));(try (conv=>whnf))))
    have e:evD name l=some x.it.d:=by
     unfold evD
     rcases qN (dq name) l with ⟨g1,_⟩|⟨j,y,g1,g2,g3,g4⟩
     ·rw[g1 x (List.mem_of_getElem? hx)]at hq;cases hq
     ·rw[g4]
      have:=idxOf_hit g1 g2 g3
      rw[idxOf_hit hx hq hp]at this
      obtain rfl:k=j:=by omega
      rw[hx]at g1
      injection g1 with g1
      rw[g1];rfl
    rw[e]at hfin
    exact hfin _ (aA.refl _)
   ·have hq:dq name x=false:=by unfold dq;rw[decide_eq_false h2,Bool.and_false]
    (try (conv=>whnf));(repeat ((first|refine qT ?_|refine qF ?_|refine qO ?_|(with_reducible intro z hz);(first|(replace hz:=hz (by omega);subst hz)|subst hz));(try (conv=>whnf))))
    refine Idx.mk k (cu x) _ rfl (by simp[hx]) rfl ?_
    (try (conv=>whnf));(repeat ((first|refine qT ?_|refine qF ?_|refine qO ?_|(with_reducible intro z hz);(first|(replace hz:=hz (by omega);subst hz)|subst hz));(try (conv=>whnf))))
    refine Idx.mk k (cu x) _ rfl (by simp[hx]) rfl ?_
    (try (conv=>whnf));(repeat ((first|refine qT ?_|refine qF ?_|refine qO ?_|(with_reducible intro z hz);(first|(replace hz:=hz (by omega);subst hz)|subst hz));(try (conv=>whnf))))
    exact⟨k+1,⟨by omega,fun y hy=>by
     rw[take_at hx,List.mem_append]at hy
     rcases hy with hy|hy
     ·exact hp y hy
     ·rw[List.mem_singleton.1 hy];exact hq⟩,by dsimp only;omega,(qSL 0 rfl rfl)⟩
  ·have hq:dq name x=false:=by unfold dq;rw[decide_eq_false h1,Bool.false_and]
   (try (conv=>whnf));(repeat ((first|refine qT ?_|refine qF ?_|refine qO ?_|(with_reducible intro z hz);(first|(replace hz:=hz (by omega);subst hz)|subst hz));(try (conv=>whnf))))
   refine Idx.mk k (cu x) _ rfl (by simp[hx]) rfl ?_
   (try (conv=>whnf));(repeat ((first|refine qT ?_|refine qF ?_|refine qO ?_|(with_reducible intro z hz);(first|(replace hz:=hz (by omega);subst hz)|subst hz));(try (conv=>whnf))))
   exact⟨k+1,⟨by omega,fun y hy=>by
    rw[take_at hx,List.mem_append]at hy
    rcases hy with hy|hy
    ·exact hp y hy
    ·rw[List.mem_singleton.1 hy];exact hq⟩,by dsimp only;omega,(qSL 0 rfl rfl)⟩
 |inr hge=>
  (try (conv=>whnf));(repeat ((first|refine qT ?_|refine qF ?_|refine qO ?_|(with_reducible intro z hz);(first|(replace hz:=hz (by omega);subst hz)|subst hz));(try (conv=>whnf))))
  obtain rfl:k=l.length:=by omega
  rw[List.take_length]at hp
  have e:evD name l=none:=by
   unfold evD
   rcases qN (dq name) l with ⟨_,g⟩|⟨j,y,g1,g2,_,_⟩
   ·rw[g];rfl
   ·rw[hp y (List.mem_of_getElem? g1)]at g2;cases g2
  rw[e]at hfin
  exact hfin _ (aA.refl _)
def uK (a x:St):St:=if x.k=0 then a else x
theorem AZ (a x:St):PC Tryz.prog aM 129 [stv a,stv x] [stv (uK a x)]:=by
 unfold uK
 split<;>unfold stv
 ·refine PC.aj (T:=tb0) ay aH rfl mixed Tryz.func129 rfl rfl (Nat.le_of_ble_eq_true rfl) ?_;intro Γ C WK LP fin h0 hW hC hB hR hLP hfin
  (try (conv=>whnf));(repeat ((first|refine qT ?_|refine qF ?_|refine qO ?_|(with_reducible intro z hz);(first|(replace hz:=hz (by omega);subst hz)|subst hz));(try (conv=>whnf))))
  exact hfin _ (aA.refl _)
 ·refine PC.aj (T:=tb0) ay aH rfl mixed Tryz.func129 rfl rfl (Nat.le_of_ble_eq_true rfl) ?_;intro Γ C WK LP fin h0 hW hC hB hR hLP hfin
  (try (conv=>whnf));(repeat ((first|refine qT ?_|refine qF ?_|refine qO ?_|(with_reducible intro z hz);(first|(replace hz:=hz (by omega);subst hz)|subst hz));(try (conv=>whnf))))
  exact hfin _ (aA.refl _)
theorem P6 (a x:St):PC Tryz.prog aM 87 [stv a,stv x] [stv (uK a x)]:=by
 unfold uK
 split<;>unfold stv
 ·refine PC.aj (T:=tb0) ay aH rfl mixed Tryz.func87 rfl rfl (Nat.le_of_ble_eq_true rfl) ?_;intro Γ C WK LP fin h0 hW hC hB hR hLP hfin
  (try (conv=>whnf));(repeat ((first|refine qT ?_|refine qF ?_|refine qO ?_|(with_reducible intro z hz);(first|(replace hz:=hz (by omega);subst hz)|subst hz));(try (conv=>whnf))))
  exact hfin _ (aA.refl _)
 ·refine PC.aj (T:=tb0) ay aH rfl mixed Tryz.func87 rfl rfl (Nat.le_of_ble_eq_true rfl) ?_;intro Γ C WK LP fin h0 hW hC hB hR hLP hfin
  (try (conv=>whnf));(repeat ((first|refine qT ?_|refine qF ?_|refine qO ?_|(with_reducible intro z hz);(first|(replace hz:=hz (by omega);subst hz)|subst hz));(try (conv=>whnf))))
  exact hfin _ (aA.refl _)
end Go.Proofs.YtfjibfdelbodjaaGreat.Pe
