/-
  Corpus: items as corrected, enacted items, by the reference.
-/
import Derived.Test.YtfjibfdelbodjaaGreatGc
namespace Go.Proofs.YtfjibfdelbodjaaGreat.Po
open Go Go.Pv Go.RowKit
set_option linter.unusedSimpArgs false
open Lab Lcs Go.Proofs.YtfjibfdelbodjaaGreat Go.Proofs.YtfjibfdelbodjaaGreat.Pu
set_option maxRecDepth 10000
set_option maxHeartbeats 64000000
abbrev itP (x:It):List PV:=[.imm (.int .i64 x.kind),.imm (.sl 2 (x.p.map spv)),.imm (.sl 2 (x.q.map spv)),.imm (.int .i64 x.z),.imm (.int .i64 x.nth),.imm (.int .i64 x.unit.id.x),.imm (.int .i64 x.unit.id.y),.imm (.int .i64 x.unit.id.z),.imm (.int .i64 x.unit.kind),.imm (.str x.unit.label),.imm (.sl 4 (x.unit.head.map wdv)),.imm (.sl 4 (x.unit.words.map wdv)),.imm (.sl 8 (x.unit.kids.map uv)),.imm (.sl 1 (x.old.map IV.str)),.imm (.sl 1 (x.new.map IV.str)),.imm (.str x.lb),.imm (.str x.fr),.imm (.int .i64 x.sk),.imm (.int .i64 x.sd),.imm (.str x.se),.imm (.int .i64 x.a),.imm (.int .i64 x.i),.imm (.int .i64 x.d),.imm (.str x.ev),.imm (.sl 25 (x.bys.map itv))]
theorem sO (k:Int):PC Tryz.prog aM 52 [.int .i64 k] [.bool (chB k)]:=by
 unfold chB
 by_cases h1:0≤k
 ·by_cases h2:k≤6
  ·rw[decide_eq_true ⟨h1,h2⟩]
   refine PC.aj (T:=tb0) ay aH rfl mixed Tryz.func52 rfl rfl (Nat.le_of_ble_eq_true rfl) ?_;intro Γ C WK LP fin h0 hW hC hB hR hLP hfin
   (try (conv=>whnf));(repeat ((first|refine qT ?_|refine qF ?_|refine qO ?_|(with_reducible intro z hz);(first|(replace hz:=hz (by omega);subst hz)|subst hz));(try (conv=>whnf))))
   exact hfin _ (aA.refl _)
  ·rw[decide_eq_false (fun h=>h2 h.2)]
   refine PC.aj (T:=tb0) ay aH rfl mixed Tryz.func52 rfl rfl (Nat.le_of_ble_eq_true rfl) ?_;intro Γ C WK LP fin h0 hW hC hB hR hLP hfin
   (try (conv=>whnf));(repeat ((first|refine qT ?_|refine qF ?_|refine qO ?_|(with_reducible intro z hz);(first|(replace hz:=hz (by omega);subst hz)|subst hz));(try (conv=>whnf))))
   exact hfin _ (aA.refl _)
 ·rw[decide_eq_false (fun h=>h1 h.1)]
  refine PC.aj (T:=tb0) ay aH rfl mixed Tryz.func52 rfl rfl (Nat.le_of_ble_eq_true rfl) ?_;intro Γ C WK LP fin h0 hW hC hB hR hLP hfin
  (try (conv=>whnf));(repeat ((first|refine qT ?_|refine qF ?_|refine qO ?_|(with_reducible intro z hz);(first|(replace hz:=hz (by omega);subst hz)|subst hz));(try (conv=>whnf))))
  exact hfin _ (aA.refl _)
def iX (n i:Int) (o x:It):It:=if isC x=true∧x.a=n∧x.i=i then x.bys.headD x else o
def C8 (n i:Int) (o:It) (l:List It):It:=l.foldl (iX n i) o
def yQ (n i:Int) (o:It) (l:List Ac):It:=l.foldl (fun o a=>C8 n i o a.items) o
def kG (l:List Ac) (n i:Int) (x:It):It:=if chB x.kind=true then yQ n i x l else x
theorem KQ {n i:Int} {o:It} {l:List It} {k:Nat} {x:It} (hx:l[k]?=some x):C8 n i o (l.take (k+1))=iX n i (C8 n i o (l.take k)) x:=by
 unfold C8
 rw[take_at hx,List.foldl_append,List.foldl_cons,List.foldl_nil]
theorem KF {n i:Int} {o:It} {l:List Ac} {k:Nat} {a:Ac} (hx:l[k]?=some a):yQ n i o (l.take (k+1))=C8 n i (yQ n i o (l.take k)) a.items:=by
 unfold yQ
 rw[take_at hx,List.foldl_append,List.foldl_cons,List.foldl_nil]
theorem Qo (l:List Ac) (n i:Int) (x:It) (hl:l.length≤1000000) (ha:∀a∈l,a.items.length≤1000000):PC Tryz.prog aM 74 [.sl 7 (l.map acv),.int .i64 n,.int .i64 i,itv x] [itv (kG l n i x)]:=by
 have hC1:=sO x.kind
 have hml:(l.map acv).length=l.length:=List.length_map _
 cases hb:chB x.kind with
 |false=>
  rw[hb]at hC1
  have hr:kG l n i x=x:=by unfold kG;rw[hb];rfl
  rw[hr,aR x]
  refine PC.aj (T:=tb0) ay aH rfl mixed Tryz.func74 rfl rfl (Nat.le_of_ble_eq_true rfl) ?_;intro Γ C WK LP fin h0 hW hC hB hR hLP hfin
  (try (conv=>whnf));(repeat ((first|refine qT ?_|refine qF ?_|refine qO ?_|(with_reducible intro z hz);(first|(replace hz:=hz (by omega);subst hz)|subst hz)|(refine ah.mk _ (hC _ _ _ (PCw.of hC1)) (fun js hjs=>?_);subst hjs));(try (conv=>whnf))))
  exact hfin _ (aA.refl _)
 |true=>
  rw[hb]at hC1
  have hr:kG l n i x=yQ n i x l:=by unfold kG;rw[hb];rfl
  rw[hr,aR x,aR (yQ n i x l)]
  refine PC.aj (T:=tb0) ay aH rfl mixed Tryz.func74 rfl rfl (Nat.le_of_ble_eq_true rfl) ?_;intro Γ C WK LP fin h0 hW hC hB hR hLP hfin
  (try (conv=>whnf));(repeat ((first|refine qT ?_|refine qF ?_|refine qO ?_|(with_reducible intro z hz);(first|(replace hz:=hz (by omega);subst hz)|subst hz)|(refine ah.mk _ (hC _ _ _ (PCw.of hC1)) (fun js hjs=>?_);subst hjs));(try (conv=>whnf))))
  refine hLP _ _ _ Nat (fun k=>⟨[(0,.imm (.sl 7 (l.map acv))),(1,.imm (.int .i64 n)),(2,.imm (.int .i64 i)),(8,.ptr 1 1 0),(9,.ptr 3 1 0),(10,.imm (.int .i64 (k:Nat)))],[.box 1 (itP x),.box 1 [.imm (.int .i64 0),.imm .nil,.imm .nil,.imm (.int .i64 0),.imm (.int .i64 0),.imm (.int .i64 0),.imm (.int .i64 0),.imm (.int .i64 0),.imm (.int .i64 0),.imm (.str ⟨#[]⟩),.imm .nil,.imm .nil,.imm .nil,.imm .nil,.imm .nil,.imm (.str ⟨#[]⟩),.imm (.str ⟨#[]⟩),.imm (.int .i64 0),.imm (.int .i64 0),.imm (.str ⟨#[]⟩),.imm (.int .i64 0),.imm (.int .i64 0),.imm (.int .i64 0),.imm (.str ⟨#[]⟩),.imm .nil],.dead 0,.box 1 (itP (yQ n i x (l.take k)))]⟩) (fun k=>k≤l.length) (fun k=>l.length - k) 0 (Nat.zero_le _) (qSL 4 rfl rfl) ?_
  intro k hk
  have hho:=Nat.lt_or_ge k l.length
  cases hho with
  |inl hlt=>
   refine (?_:∀Q:Exit→AS→Prop,vcS _ _ _ _ _ _ _ (dV _ _ _ _ _ _ Q)) _;intro Q
   obtain⟨a,hak⟩:∃a,l[k]?=some a:=⟨l[k],List.getElem?_eq_getElem hlt⟩
   have hst:=KF (n:=n) (i:=i) (o:=x) hak
   have hai:=ha a (List.mem_of_getElem? hak)
   have hmi:(a.items.map itv).length=a.items.length:=List.length_map _
   generalize yQ n i x (l.take k)=o at *
   (try (conv=>whnf));(repeat ((first|refine qT ?_|refine qF ?_|refine qO ?_|(with_reducible intro z hz);(first|(replace hz:=hz (by omega);subst hz)|subst hz));(try (conv=>whnf))))
   refine hLP _ _ _ Nat (fun j=>⟨[(0,.imm (.sl 7 (l.map acv))),(1,.imm (.int .i64 n)),(2,.imm (.int .i64 i)),(8,.ptr 1 1 0),(9,.ptr 3 1 0),(10,.imm (.int .i64 (k:Nat))),(11,.imm (.int .i64 (j:Nat)))],[.box 1 (itP x),.box 1 [.imm (.int .i64 0),.imm .nil,.imm .nil,.imm (.int .i64 0),.imm (.int .i64 0),.imm (.int .i64 0),.imm (.int .i64 0),.imm (.int .i64 0),.imm (.int .i64 0),.imm (.str ⟨#[]⟩),.imm .nil,.imm .nil,.imm .nil,.imm .nil,.imm .nil,.imm (.str ⟨#[]⟩),.imm (.str ⟨#[]⟩),.imm (.int .i64 0),.imm (.int .i64 0),.imm (.str ⟨#[]⟩),.imm (.int .i64 0),.imm (.int .i64 0),.imm (.int .i64 0),.imm (.str ⟨#[]⟩),.imm .nil],.dead 0,.box 1 (itP (C8 n i o (a.items.take j)))]⟩) (fun j=>j≤a.items.length) (fun j=>a.items.length - j) 0 (Nat.zero_le _) (qSL 4 rfl rfl) ?_
   intro j hj
   have hhj:=Nat.lt_or_ge j a.items.length
   cases hhj with
   |inl hjl=>
    refine (?_:∀Q:Exit→AS→Prop,vcS _ _ _ _ _ _ _ (dV _ _ _ _ _ _ Q)) _;intro Q
    obtain⟨y,hy⟩:∃y,a.items[j]?=some y:=⟨a.items[j],List.getElem?_eq_getElem hjl⟩
    have hsj:=KQ (n:=n) (i:=i) (o:=o) hy
    generalize C8 n i o (a.items.take j)=v at *
    by_cases h11:y.kind=11
    rotate_left
    ·have hv:iX n i v y=v:=by unfold iX;rw[if_neg];unfold isC;rw[decide_eq_false h11];simp
     rw[hv]at hsj
     (try (conv=>whnf));(repeat ((first|refine qT ?_|refine qF ?_|refine qO ?_|(with_reducible intro z hz);(first|(replace hz:=hz (by omega);subst hz)|subst hz));(try (conv=>whnf))))
     refine Idx.mk k (acv a) _ rfl (by simp[hak]) rfl ?_
     (try (conv=>whnf));(repeat ((first|refine qT ?_|refine qF ?_|refine qO ?_|(with_reducible intro z hz);(first|(replace hz:=hz (by omega);subst hz)|subst hz));(try (conv=>whnf))))
     refine Idx.mk k (acv a) _ rfl (by simp[hak]) rfl ?_
     (try (conv=>whnf));(repeat ((first|refine qT ?_|refine qF ?_|refine qO ?_|(with_reducible intro z hz);(first|(replace hz:=hz (by omega);subst hz)|subst hz));(try (conv=>whnf))))
     refine Idx.mk j (itv y) _ rfl (by simp[hy]) (by rw[aR y]) ?_
     (try (conv=>whnf));(repeat ((first|refine qT ?_|refine qF ?_|refine qO ?_|(with_reducible intro z hz);(first|(replace hz:=hz (by omega);subst hz)|subst hz));(try (conv=>whnf))))
     exact⟨j+1,by omega,by dsimp only;omega,by
      dsimp only[]
      rw[hsj]
      exact (qSL 4 rfl rfl)⟩
    by_cases hya:y.a=n
    rotate_left
    ·have hv:iX n i v y=v:=by unfold iX;rw[if_neg];simp[hya]
     rw[hv]at hsj
     (try (conv=>whnf));(repeat ((first|refine qT ?_|refine qF ?_|refine qO ?_|(with_reducible intro z hz);(first|(replace hz:=hz (by omega);subst hz)|subst hz));(try (conv=>whnf))))
     refine Idx.mk k (acv a) _ rfl (by simp[hak]) rfl ?_
     (try (conv=>whnf));(repeat ((first|refine qT ?_|refine qF ?_|refine qO ?_|(with_reducible intro z hz);(first|(replace hz:=hz (by omega);subst hz)|subst hz));(try (conv=>whnf))))
     refine Idx.mk k (acv a) _ rfl (by simp[hak]) rfl ?_
     (try (conv=>whnf));(repeat ((first|refine qT ?_|refine qF ?_|refine qO ?_|(with_reducible intro z hz);(first|(replace hz:=hz (by omega);subst hz)|subst hz));(try (conv=>whnf))))
     refine Idx.mk j (itv y) _ rfl (by simp[hy]) (by rw[aR y]) ?_
     (try (conv=>whnf));(repeat ((first|refine qT ?_|refine qF ?_|refine qO ?_|(with_reducible intro z hz);(first|(replace hz:=hz (by omega);subst hz)|subst hz));(try (conv=>whnf))))
     exact⟨j+1,by omega,by dsimp only;omega,by
      dsimp only[]
      rw[hsj]
      exact (qSL 4 rfl rfl)⟩
    by_cases hyi:y.i=i
    rotate_left
    ·have hv:iX n i v y=v:=by unfold iX;rw[if_neg];simp[hyi]
     rw[hv]at hsj
     (try (conv=>whnf));(repeat ((first|refine qT ?_|refine qF ?_|refine qO ?_|(with_reducible intro z hz);(first|(replace hz:=hz (by omega);subst hz)|subst hz));(try (conv=>whnf))))
     refine Idx.mk k (acv a) _ rfl (by simp[hak]) rfl ?_
     (try (conv=>whnf));(repeat ((first|refine qT ?_|refine qF ?_|refine qO ?_|(with_reducible intro z hz);(first|(replace hz:=hz (by omega);subst hz)|subst hz));(try (conv=>whnf))))
     refine Idx.mk k (acv a) _ rfl (by simp[hak]) rfl ?_
     (try (conv=>whnf));(repeat ((first|refine qT ?_|refine qF ?_|refine qO ?_|(with_reducible intro z hz);(first|(replace hz:=hz (by omega);subst hz)|subst hz));(try (conv=>whnf))))
     refine Idx.mk j (itv y) _ rfl (by simp[hy]) (by rw[aR y]) ?_
     (try (conv=>whnf));(repeat ((first|refine qT ?_|refine qF ?_|refine qO ?_|(with_reducible intro z hz);(first|(replace hz:=hz (by omega);subst hz)|subst hz));(try (conv=>whnf))))
     exact⟨j+1,by omega,by dsimp only;omega,by
      dsimp only[]
      rw[hsj]
      exact (qSL 4 rfl rfl)⟩
    cases hby:y.bys with
    |nil=>
     have hv:iX n i v y=v:=by unfold iX;rw[if_neg];unfold isC;rw[hby];simp
     rw[hv]at hsj
     have hbl:(y.bys.map itv).length=0:=by rw[hby];rfl
     (try (conv=>whnf));(repeat ((first|refine qT ?_|refine qF ?_|refine qO ?_|(with_reducible intro z hz);(first|(replace hz:=hz (by omega);subst hz)|subst hz));(try (conv=>whnf))))
     refine Idx.mk k (acv a) _ rfl (by simp[hak]) rfl ?_
     (try (conv=>whnf));(repeat ((first|refine qT ?_|refine qF ?_|refine qO ?_|(with_reducible intro z hz);(first|(replace hz:=hz (by omega);subst hz)|subst hz));(try (conv=>whnf))))
     refine Idx.mk k (acv a) _ rfl (by simp[hak]) rfl ?_
     (try (conv=>whnf));(repeat ((first|refine qT ?_|refine qF ?_|refine qO ?_|(with_reducible intro z hz);(first|(replace hz:=hz (by omega);subst hz)|subst hz));(try (conv=>whnf))))
     refine Idx.mk j (itv y) _ rfl (by simp[hy]) (by rw[aR y]) ?_
     (try (conv=>whnf));(repeat ((first|refine qT ?_|refine qF ?_|refine qO ?_|(with_reducible intro z hz);(first|(replace hz:=hz (by omega);subst hz)|subst hz));(try (conv=>whnf))))
     exact⟨j+1,by omega,by dsimp only;omega,by
      dsimp only[]
      rw[hsj]
      exact (qSL 4 rfl rfl)⟩
    |cons u q=>
     have hbl:(y.bys.map itv).length=q.length+1:=by rw[hby];simp
     have hC2:=sO u.kind
     have hb0:(y.bys.map itv)[0]?=some (itv u):=by rw[hby];rfl
     cases hcu:chB u.kind with
     |false=>
      rw[hcu]at hC2
      have hv:iX n i v y=v:=by unfold iX;rw[if_neg];unfold isC;rw[hby];simp[hcu]
      rw[hv]at hsj
      (try (conv=>whnf));(repeat ((first|refine qT ?_|refine qF ?_|refine qO ?_|(with_reducible intro z hz);(first|(replace hz:=hz (by omega);subst hz)|subst hz));(try (conv=>whnf))))
      refine Idx.mk k (acv a) _ rfl (by simp[hak]) rfl ?_
      (try (conv=>whnf));(repeat ((first|refine qT ?_|refine qF ?_|refine qO ?_|(with_reducible intro z hz);(first|(replace hz:=hz (by omega);subst hz)|subst hz));(try (conv=>whnf))))
      refine Idx.mk k (acv a) _ rfl (by simp[hak]) rfl ?_
      (try (conv=>whnf));(repeat ((first|refine qT ?_|refine qF ?_|refine qO ?_|(with_reducible intro z hz);(first|(replace hz:=hz (by omega);subst hz)|subst hz));(try (conv=>whnf))))
      refine Idx.mk j (itv y) _ rfl (by simp[hy]) (by rw[aR y]) ?_
      (try (conv=>whnf));(repeat ((first|refine qT ?_|refine qF ?_|refine qO ?_|(with_reducible intro z hz);(first|(replace hz:=hz (by omega);subst hz)|subst hz));(try (conv=>whnf))))
      refine Idx.mk 0 (itv u) _ rfl hb0 (by rw[aR u]) ?_
      (try (conv=>whnf));(repeat ((first|refine qT ?_|refine qF ?_|refine qO ?_|(with_reducible intro z hz);(first|(replace hz:=hz (by omega);subst hz)|subst hz)|(refine ah.mk _ (hC _ _ _ (PCw.of hC2)) (fun js hjs=>?_);subst hjs));(try (conv=>whnf))))
      exact⟨j+1,by omega,by dsimp only;omega,by
       dsimp only[]
       rw[hsj]
       exact (qSL 4 rfl rfl)⟩
     |true=>
      rw[hcu]at hC2
      have hv:iX n i v y=u:=by
       unfold iX;rw[if_pos]
       ·rw[hby];rfl
       ·unfold isC;rw[hby];simp[hcu,h11,hya,hyi]
      rw[hv]at hsj
      (try (conv=>whnf));(repeat ((first|refine qT ?_|refine qF ?_|refine qO ?_|(with_reducible intro z hz);(first|(replace hz:=hz (by omega);subst hz)|subst hz));(try (conv=>whnf))))
      refine Idx.mk k (acv a) _ rfl (by simp[hak]) rfl ?_
      (try (conv=>whnf));(repeat ((first|refine qT ?_|refine qF ?_|refine qO ?_|(with_reducible intro z hz);(first|(replace hz:=hz (by omega);subst hz)|subst hz));(try (conv=>whnf))))
      refine Idx.mk k (acv a) _ rfl (by simp[hak]) rfl ?_
      (try (conv=>whnf));(repeat ((first|refine qT ?_|refine qF ?_|refine qO ?_|(with_reducible intro z hz);(first|(replace hz:=hz (by omega);subst hz)|subst hz));(try (conv=>whnf))))
      refine Idx.mk j (itv y) _ rfl (by simp[hy]) (by rw[aR y]) ?_
      (try (conv=>whnf));(repeat ((first|refine qT ?_|refine qF ?_|refine qO ?_|(with_reducible intro z hz);(first|(replace hz:=hz (by omega);subst hz)|subst hz));(try (conv=>whnf))))
      refine Idx.mk 0 (itv u) _ rfl hb0 (by rw[aR u]) ?_
      (try (conv=>whnf));(repeat ((first|refine qT ?_|refine qF ?_|refine qO ?_|(with_reducible intro z hz);(first|(replace hz:=hz (by omega);subst hz)|subst hz)|(refine ah.mk _ (hC _ _ _ (PCw.of hC2)) (fun js hjs=>?_);subst hjs));(try (conv=>whnf))))
      refine Idx.mk 0 (itv u) _ rfl hb0 (by rw[aR u]) ?_
      (try (conv=>whnf));(repeat ((first|refine qT ?_|refine qF ?_|refine qO ?_|(with_reducible intro z hz);(first|(replace hz:=hz (by omega);subst hz)|subst hz));(try (conv=>whnf))))
      exact⟨j+1,by omega,by dsimp only;omega,by
       dsimp only[]
       rw[hsj]
       exact (qSL 4 rfl rfl)⟩
   |inr hjg=>
    obtain rfl:j=a.items.length:=by omega
    rw[List.take_length]
    (try (conv=>whnf));(repeat ((first|refine qT ?_|refine qF ?_|refine qO ?_|(with_reducible intro z hz);(first|(replace hz:=hz (by omega);subst hz)|subst hz));(try (conv=>whnf))))
    refine Idx.mk k (acv a) _ rfl (by simp[hak]) rfl ?_
    (try (conv=>whnf));(repeat ((first|refine qT ?_|refine qF ?_|refine qO ?_|(with_reducible intro z hz);(first|(replace hz:=hz (by omega);subst hz)|subst hz));(try (conv=>whnf))))
    exact⟨k+1,by omega,by dsimp only;omega,by
     dsimp only[]
     rw[hst]
     exact (qSL 4 rfl rfl)⟩
  |inr hge=>
   obtain rfl:k=l.length:=by omega
   rw[List.take_length]
   (try (conv=>whnf));(repeat ((first|refine qT ?_|refine qF ?_|refine qO ?_|(with_reducible intro z hz);(first|(replace hz:=hz (by omega);subst hz)|subst hz));(try (conv=>whnf))))
   exact hfin _ (aA.refl _)
end Go.Proofs.YtfjibfdelbodjaaGreat.Po
