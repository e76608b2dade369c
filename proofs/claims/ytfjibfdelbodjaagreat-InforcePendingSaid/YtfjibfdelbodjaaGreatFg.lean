/-
  In force: Pending. In force: the reference's purposes. In force: the law of what is pending.
-/
import Derived.Test.YtfjibfdelbodjaaGreatFe
import Derived.Test.YtfjibfdelbodjaaGreatWFm
import Derived.Sort.Walk0
namespace Go.Proofs.YtfjibfdelbodjaaGreat.Po
open Go Go.Pv Go.RowKit
set_option linter.unusedSimpArgs false
open Lab Lcs Go.Proofs.YtfjibfdelbodjaaGreat Go.Proofs.YtfjibfdelbodjaaGreat.Pu
set_option maxRecDepth 10000
set_option maxHeartbeats 32000000
namespace F
abbrev rwK (g:Nat) (l:List (Int×Int)):Blk:=.row 67 2 g ((l.map kv2).map .imm)
abbrev Vg (g:Nat) (l:List (Int×Int)):CBk:=.row 67 2 g (l.map kv2)
noncomputable def pdL (A:List Ac) (D L:List Ei):List (Int×Int):=((amL L).filter fun d=>(cK A D d).isEmpty).map fun d=>(d.act,d.item)
theorem UU {A:List Ac} {D L:List Ei} {k:Nat} {d:Ei} (h:L[k]?=some d):pdL A D (L.take (k+1))=if chB d.it.kind=true then (if (cK A D d).isEmpty=true then pdL A D (L.take k)++[(d.act,d.item)] else pdL A D (L.take k)) else pdL A D (L.take k):=by
 unfold pdL
 rw[xJ h]
 cases chB d.it.kind with
 |true=>
  rw[if_pos rfl,if_pos rfl,List.filter_append]
  cases hb:(cK A D d).isEmpty<;>simp[List.filter_cons,hb]
 |false=>rfl
theorem Ul (A:List Ac) (D L:List Ei):(pdL A D L).length≤L.length:=by
 unfold pdL
 rw[List.length_map]
 exact Nat.le_trans (List.length_filter_le _ _) (List.length_filter_le _ _)
theorem U7 (d:Ei) (R:List Spans.Sp) (es:List (Int×Int)) (hR:R.length≤1000) (he:es.length≤1000):PCB Tryz.prog aM 47 [.imm (eiv d),.imm (.sl 2 (R.map Pe.spv)),.ptr 0 1 0] [.box 1 [.row 1 1],rwK 1 es] [] [.box 1 [.row 1 2],rwK 2 (if R.isEmpty=true then es++[(d.act,d.item)] else es)]:=by
 have hel:((es.map kv2).map PV.imm).length=es.length:=by simp
 have hrl:(R.map Pe.spv).length=R.length:=List.length_map _
 rw[show eiv d=IV.agg _ from rfl]
 cases R with
 |cons s R=>
  rw[List.isEmpty_cons,if_neg (by simp)]
  rw[List.length_cons]at hrl hR
  generalize (s::R).map Pe.spv=rs at *
  refine PCB.aj (T:=dZ) aS bB rfl mixed Tryz.func47 rfl rfl rfl (Nat.le_of_ble_eq_true rfl) rfl ?_;intro Γ C WK LP fin h0 hk0 hW hC hB hR hLP hfin
  have h02:Γ.n0=2:=h0
  (try (conv=>whnf));(repeat ((first|refine qT ?_|refine qF ?_|refine qO ?_|(with_reducible intro z hz);(first|(replace hz:=hz (by omega);subst hz)|subst hz));(try (conv=>whnf))))
  refine hfin _ ?_
  exact (aC.renew 1 2 rfl (by first|omega|(intro _;rw[hk0 _ _ rfl];exact Nat.le_of_ble_eq_true rfl)) (by repeat (first|exact trivial|refine And.intro (bA _ _ _ _) ?_|refine And.intro rfl ?_))).trans (qSL 2 rfl rfl)
 |nil=>
  rw[List.isEmpty_nil,if_pos rfl]
  refine PCB.aj (T:=dZ) aS bB rfl mixed Tryz.func47 rfl rfl rfl (Nat.le_of_ble_eq_true rfl) rfl ?_;intro Γ C WK LP fin h0 hk0 hW hC hB hR hLP hfin
  have h02:Γ.n0=2:=h0
  (try (conv=>whnf));(repeat ((first|refine qT ?_|refine qF ?_|refine qO ?_|(with_reducible intro z hz);(first|(replace hz:=hz (by omega);subst hz)|subst hz));(try (conv=>whnf))))
  refine hfin _ ?_
  exact (aC.row 1 ((((es++[(d.act,d.item)]).map kv2).map .imm)) rfl (by simp[kv2])).trans (qSL 2 rfl rfl)
theorem Ur {l:List Gz} {m:Nat} (hm:m≤300) (h30:bO l m):PCB Tryz.prog aM 34 [.imm (.sl 4 (l.map gzv)),.clo 47 [.ptr 0 1 0]] [.box 1 [.imm .nil],.dead 1] [] [.box 1 [.row 1 2],rwK 2 (pdL (bn (allA l)) (aW l) (aW l))]:=by
 have hIt:=h30.items (by omega)
 have hAc:=h30.Rh
 have hDl:=h30.jI
 have hAl:(bn (allA l)).length≤1000:=Df h30
 have hnd:=xV l
 generalize bn (allA l)=A at *
 generalize aW l=D at *
 have hRu:=Am A D hAl (by omega)
 have hDy:∀d,_:=fun d=>ze A D d hnd (by omega)
 have hmd:(D.map eiv).length=D.length:=List.length_map _
 refine PCB.aj (T:=(tbF fun r=>Nat.beq r 1)) aS bB rfl mixed Tryz.func34 rfl rfl rfl (Nat.le_of_ble_eq_true rfl) rfl ?_;intro Γ C WK LP fin h0 hk0 hW hC hB hR hLP hfin
 have h04:Γ.n0=2:=h0
 (try (conv=>whnf));(repeat ((first|refine qT ?_|refine qF ?_|refine qO ?_|(with_reducible intro z hz);(first|(replace hz:=hz (by omega);subst hz)|subst hz)|(refine ah.mk _ (hC _ _ _ (PCw.of hIt)) (fun js hjs=>?_);subst hjs));(try (conv=>whnf))))
 refine hW _ _ _ aC.spare ?_
 (try (conv=>whnf));(repeat ((first|refine qT ?_|refine qF ?_|refine qO ?_|(with_reducible intro z hz);(first|(replace hz:=hz (by omega);subst hz)|subst hz)|(refine ah.mk _ (hC _ _ _ (PCw.of hAc)) (fun js hjs=>?_);subst hjs));(try (conv=>whnf))))
 refine bV.mk ([.agg [.row 0 2,.imm (.sl 28 ((evs D).map eiv)),.row 1 2]]) ([.map (.int .i64) 2 (mkL kI stI (stM [] A)),.map (.int .i64) 2 (mkL kI gL (orM [] D))]) (hB _ _ _ _ _ (hRu)) ?_
 (try (conv=>whnf));(repeat ((first|refine qT ?_|refine qF ?_|refine qO ?_|(with_reducible intro z hz);(first|(replace hz:=hz (by omega);subst hz)|subst hz));(try (conv=>whnf))))
 refine hLP _ _ _ Nat (fun k=>⟨[(1,.clo 47 [.ptr 0 1 0]),(5,.ptr 6 1 0),(14,.imm (.sl 28 (D.map eiv))),(15,.imm (.int .i64 (D.length:Nat))),(16,.imm (.int .i64 (k:Nat)))],[.box 1 [.row 7 1],.dead 1,.dead 0,.map (.int .i64) 78 (mkL kI gL (orM [] D)),.dead 0,.map (.int .i64) 1 (mkL kI stI (stM [] A)),.box 1 [.row 5 1,.imm (.sl 28 ((evs D).map eiv)),.row 3 78],rwK 1 (pdL A D (D.take k))]⟩) (fun k=>k≤D.length) (fun k=>D.length - k) 0 (Nat.zero_le _) ((aC.BU 0 0 67 2 rfl rfl).trans (qSL 8 rfl rfl (hE:=by (repeat ((conv=>whnf);first|exact trivial|refine And.intro (by first|exact av.any|exact av.eq (by with_reducible rfl) rfl|exact av.eq (congrArg (fun z=>PV.imm (IV.int IntKind.i64 z)) (by first|omega|(simp[hmd];done)|(simp[hmd];omega))) rfl|exact av.eq (by first|(simp[hmd];done)|fail) rfl|exact av.eq rfl rfl|exact av.le rfl (ILe.nil _)) ?_))))) ?_
 intro k hk
 have hho:=Nat.lt_or_ge k D.length
 cases hho with
 |inl hlt=>
  obtain⟨d,hd⟩:∃d,D[k]?=some d:=⟨D[k],List.getElem?_eq_getElem hlt⟩
  have hst:=UU (A:=A) (D:=D) hd
  have hel:=Ul A D (D.take k)
  rw[List.length_take]at hel
  generalize pdL A D (D.take k)=es at *
  have hAm:=uW d.it.kind
  have hDd:=hDy d
  have hRl:=o7 A D d
  generalize cK A D d=R at *
  have hOd:=U7 d R es (by omega) (by omega)
  rw[show eiv d=IV.agg _ from rfl]at hDd hOd
  cases hc:chB d.it.kind with
  |true=>
   rw[hc]at hAm
   rw[hc,if_pos rfl]at hst
   (try (conv=>whnf));(repeat ((first|refine qT ?_|refine qF ?_|refine qO ?_|(with_reducible intro z hz);(first|(replace hz:=hz (by omega);subst hz)|subst hz));(try (conv=>whnf))))
   refine Idx.mk k (eiv d) _ rfl (by simp[hd]) rfl ?_
   (try (conv=>whnf));(repeat ((first|refine qT ?_|refine qF ?_|refine qO ?_|(with_reducible intro z hz);(first|(replace hz:=hz (by omega);subst hz)|subst hz)|(refine ah.mk _ (hC _ _ _ (PCw.of hAm)) (fun js hjs=>?_);subst hjs));(try (conv=>whnf))))
   refine bV.mk ([.imm (.sl 2 (R.map Pe.spv))]) (mpC 1 (stM [] A) (orM [] D)) (hB _ _ _ _ _ (hDd)) ?_
   (try (conv=>whnf));(repeat ((first|refine qT ?_|refine qF ?_|refine qO ?_|(with_reducible intro z hz);(first|(replace hz:=hz (by omega);subst hz)|subst hz));(try (conv=>whnf))))
   refine bN.mk (es.map kv2) rfl ?_
   (try (conv=>whnf));(repeat ((first|refine qT ?_|refine qF ?_|refine qO ?_|(with_reducible intro z hz);(first|(replace hz:=hz (by omega);subst hz)|subst hz));(try (conv=>whnf))))
   refine bV.mk ([]) ([.box 1 [.row 1 2],Vg 2 (if R.isEmpty=true then es++[(d.act,d.item)] else es)]) (hB _ _ _ _ _ (hOd)) ?_
   (try (conv=>whnf));(repeat ((first|refine qT ?_|refine qF ?_|refine qO ?_|(with_reducible intro z hz);(first|(replace hz:=hz (by omega);subst hz)|subst hz));(try (conv=>whnf))))
   exact⟨k+1,by omega,by dsimp only;omega,by
    dsimp only[]
    rw[hst]
    exact (aC.renew 7 1 rfl (by first|omega|(intro _;rw[hk0 _ _ rfl];exact Nat.le_of_ble_eq_true rfl)) (by repeat (first|exact trivial|refine And.intro (bA _ _ _ _) ?_|refine And.intro rfl ?_))).trans (qSL 8 rfl rfl)⟩
  |false=>
   rw[hc]at hAm
   rw[hc,if_neg (by simp)]at hst
   (try (conv=>whnf));(repeat ((first|refine qT ?_|refine qF ?_|refine qO ?_|(with_reducible intro z hz);(first|(replace hz:=hz (by omega);subst hz)|subst hz));(try (conv=>whnf))))
   refine Idx.mk k (eiv d) _ rfl (by simp[hd]) rfl ?_
   (try (conv=>whnf));(repeat ((first|refine qT ?_|refine qF ?_|refine qO ?_|(with_reducible intro z hz);(first|(replace hz:=hz (by omega);subst hz)|subst hz)|(refine ah.mk _ (hC _ _ _ (PCw.of hAm)) (fun js hjs=>?_);subst hjs));(try (conv=>whnf))))
   exact⟨k+1,by omega,by dsimp only;omega,by
    dsimp only[]
    rw[hst]
    exact (qSL 8 rfl rfl)⟩
 |inr hge=>
  obtain rfl:k=D.length:=by omega
  rw[List.take_length]
  (try (conv=>whnf));(repeat ((first|refine qT ?_|refine qF ?_|refine qO ?_|(with_reducible intro z hz);(first|(replace hz:=hz (by omega);subst hz)|subst hz));(try (conv=>whnf))))
  refine hfin _ ?_
  exact (aC.adopt 1 7 2 (by decide) rfl rfl (by rw[h0];exact Nat.le_of_ble_eq_true rfl) (by first|omega|(intro _;rw[hk0 _ _ rfl];exact Nat.le_of_ble_eq_true rfl)) (by repeat (first|exact trivial|refine And.intro (eD _ _ _ _ _) ?_|refine And.intro rfl ?_))).trans (qSL 2 rfl rfl)
noncomputable def pends (l:List Gz):List (Int×Int):=pdL (bn (allA l)) (aW l) (aW l)
theorem U4 {l:List Gz} {m:Nat} (hm:m≤300) (h:bO l m):PC Tryz.prog aM 23 [.sl 4 (l.map gzv)] [.sl 2 ((pends l).map kv2)]:=by
 have hV:=Ur hm h
 have hsm:=Ul (bn (allA l)) (aW l) (aW l)
 have hdl:=h.jI
 unfold pends
 generalize pdL (bn (allA l)) (aW l) (aW l)=es at *
 refine PC.aj (T:=dZ) aS bB rfl mixed Tryz.func23 rfl rfl (Nat.le_of_ble_eq_true rfl) ?_;intro Γ C WK LP fin h0 hW hC hB hR hLP hfin
 have h00:Γ.n0=0:=h0
 (try (conv=>whnf));(repeat ((first|refine qT ?_|refine qF ?_|refine qO ?_|(with_reducible intro z hz);(first|(replace hz:=hz (by omega);subst hz)|subst hz));(try (conv=>whnf))))
 refine bV.mk ([]) ([.box 1 [.row 1 2],Vg 2 es]) (hB _ _ _ _ _ (hV)) ?_
 (try (conv=>whnf));(repeat ((first|refine qT ?_|refine qF ?_|refine qO ?_|(with_reducible intro z hz);(first|(replace hz:=hz (by omega);subst hz)|subst hz));(try (conv=>whnf))))
 refine bN.mk (es.map kv2) rfl ?_
 exact hfin _ (aA.refl _)
theorem U2 {l:List Gz} {m:Nat} (hm:m≤300) (h30:bO l m):PC Tryz.prog aM 28 [.sl 4 (l.map gzv)] [.sl 2 ((pends l).map kv2)]:=by
 have hCh:=Iw hm h30
 have hOf:∀d,_:=fun d=>Nz hm h30 d
 have hDl:=h30.jI
 have hcl:(amL (aW l)).length≤(aW l).length:=List.length_filter_le _ _
 have hdl:∀d,(jP l d).length≤1+(aW l).length:=fun d=>o7 _ _ d
 unfold pends pdL
 rw[show (fun d=>(cK (bn (allA l)) (aW l) d).isEmpty)=fun d=>(jP l d).isEmpty from rfl]
 generalize amL (aW l)=cs at *
 have hmc:(cs.map eiv).length=cs.length:=List.length_map _
 refine PC.aj (T:=dZ) aS bB rfl mixed Tryz.func28 rfl rfl (Nat.le_of_ble_eq_true rfl) ?_;intro Γ C WK LP fin h0 hW hC hB hR hLP hfin
 have h00:Γ.n0=0:=h0
 (try (conv=>whnf));(repeat ((first|refine qT ?_|refine qF ?_|refine qO ?_|(with_reducible intro z hz);(first|(replace hz:=hz (by omega);subst hz)|subst hz)|(refine ah.mk _ (hC _ _ _ (PCw.of hCh)) (fun js hjs=>?_);subst hjs));(try (conv=>whnf))))
 refine hLP _ _ _ Nat (fun k=>⟨[(0,.imm (.sl 4 (l.map gzv))),(3,.row 0 1),(4,.imm (.sl 28 (cs.map eiv))),(5,.imm (.int .i64 (k:Nat)))],[rwK 1 (((cs.take k).filter fun d=>(jP l d).isEmpty).map fun d=>(d.act,d.item))]⟩) (fun k=>k≤cs.length) (fun k=>cs.length - k) 0 (Nat.zero_le _) ((aC.row 0 ([]) rfl (by rfl)).trans (qSL 1 rfl rfl)) ?_
 intro k hk
 have hho:=Nat.lt_or_ge k cs.length
 cases hho with
 |inl hlt=>
  obtain⟨d,hd⟩:∃d,cs[k]?=some d:=⟨cs[k],List.getElem?_eq_getElem hlt⟩
  have hst:=Ub (p:=fun d=>(jP l d).isEmpty) hd
  have hel:(((cs.take k).filter fun d=>(jP l d).isEmpty).map fun d:Ei=>(d.act,d.item)).length≤k:=by
   rw[List.length_map]
   exact Nat.le_trans (List.length_filter_le _ _) (by rw[List.length_take];omega)
  have hOd:=hOf d
  have hRl:=hdl d
  rw[show eiv d=IV.agg _ from rfl]at hOd
  by_cases hR:(jP l d).isEmpty=true
  ·have hst2:(((cs.take (k+1)).filter fun d=>(jP l d).isEmpty).map fun d:Ei=>(d.act,d.item))=(((cs.take k).filter fun d=>(jP l d).isEmpty).map fun d:Ei=>(d.act,d.item))++[(d.act,d.item)]:=by
    rw[hst,if_pos hR,List.map_append];rfl
   generalize (((cs.take k).filter fun d=>(jP l d).isEmpty).map fun d:Ei=>(d.act,d.item))=es at *
   rw[List.isEmpty_iff.1 hR]at hOd
   have hlm:((es.map kv2).map PV.imm).length=es.length:=by simp
   (try (conv=>whnf));(repeat ((first|refine qT ?_|refine qF ?_|refine qO ?_|(with_reducible intro z hz);(first|(replace hz:=hz (by omega);subst hz)|subst hz));(try (conv=>whnf))))
   refine Idx.mk k (eiv d) _ rfl (by simp[hd]) rfl ?_
   (try (conv=>whnf));(repeat ((first|refine qT ?_|refine qF ?_|refine qO ?_|(with_reducible intro z hz);(first|(replace hz:=hz (by omega);subst hz)|subst hz)|(refine ah.mk _ (hC _ _ _ (PCw.of hOd)) (fun js hjs=>?_);subst hjs));(try (conv=>whnf))))
   refine Idx.mk k (eiv d) _ rfl (by simp[hd]) rfl ?_
   (try (conv=>whnf));(repeat ((first|refine qT ?_|refine qF ?_|refine qO ?_|(with_reducible intro z hz);(first|(replace hz:=hz (by omega);subst hz)|subst hz));(try (conv=>whnf))))
   refine Idx.mk k (eiv d) _ rfl (by simp[hd]) rfl ?_
   (try (conv=>whnf));(repeat ((first|refine qT ?_|refine qF ?_|refine qO ?_|(with_reducible intro z hz);(first|(replace hz:=hz (by omega);subst hz)|subst hz));(try (conv=>whnf))))
   exact⟨k+1,by omega,by dsimp only;omega,by
    dsimp only[]
    rw[hst2]
    exact (aC.row 0 ((((es++[(d.act,d.item)]).map kv2).map .imm)) rfl (by simp[kv2])).trans ((aC.renew 0 1 rfl (by first|omega|(intro _;rw[hk0 _ _ rfl];exact Nat.le_of_ble_eq_true rfl)) (by repeat (first|exact trivial|refine And.intro (bA _ _ _ _) ?_|refine And.intro rfl ?_))).trans (qSL 1 rfl rfl))⟩
  ·have hst2:(((cs.take (k+1)).filter fun d=>(jP l d).isEmpty).map fun d:Ei=>(d.act,d.item))=(((cs.take k).filter fun d=>(jP l d).isEmpty).map fun d:Ei=>(d.act,d.item)):=by
    rw[hst,if_neg hR]
   generalize (((cs.take k).filter fun d=>(jP l d).isEmpty).map fun d:Ei=>(d.act,d.item))=es at *
   have hR0:0 < (jP l d).length:=by
    cases hx:jP l d with
    |nil=>rw[hx]at hR;exact absurd rfl hR
    |cons s L=>simp
   generalize jP l d=R at *
   have hrl:(R.map Pe.spv).length=R.length:=List.length_map _
   (try (conv=>whnf));(repeat ((first|refine qT ?_|refine qF ?_|refine qO ?_|(with_reducible intro z hz);(first|(replace hz:=hz (by omega);subst hz)|subst hz));(try (conv=>whnf))))
   refine Idx.mk k (eiv d) _ rfl (by simp[hd]) rfl ?_
   (try (conv=>whnf));(repeat ((first|refine qT ?_|refine qF ?_|refine qO ?_|(with_reducible intro z hz);(first|(replace hz:=hz (by omega);subst hz)|subst hz)|(refine ah.mk _ (hC _ _ _ (PCw.of hOd)) (fun js hjs=>?_);subst hjs));(try (conv=>whnf))))
   exact⟨k+1,by omega,by dsimp only;omega,by
    dsimp only[]
    rw[hst2]
    exact (qSL 1 rfl rfl)⟩
 |inr hge=>
  obtain rfl:k=cs.length:=by omega
  rw[List.take_length]
  (try (conv=>whnf));(repeat ((first|refine qT ?_|refine qF ?_|refine qO ?_|(with_reducible intro z hz);(first|(replace hz:=hz (by omega);subst hz)|subst hz));(try (conv=>whnf))))
  refine bN.mk ((((cs.filter fun d=>(jP l d).isEmpty).map fun d:Ei=>(d.act,d.item))).map kv2) rfl ?_
  exact hfin _ (aA.refl _)
theorem UK (E:List (Int×Int)) (hl:E.length≤1000000):PC Tryz.prog aM 27 [.sl 2 (E.map kv2),.sl 2 (E.map kv2)] [.bool true]:=by
 have hme:(E.map kv2).length=E.length:=List.length_map _
 refine PC.aj (T:=dZ) aS bB rfl mixed Tryz.func27 rfl rfl (Nat.le_of_ble_eq_true rfl) ?_;intro Γ C WK LP fin h0 hW hC hB hR hLP hfin
 have h00:Γ.n0=0:=h0
 (try (conv=>whnf));(repeat ((first|refine qT ?_|refine qF ?_|refine qO ?_|(with_reducible intro z hz);(first|(replace hz:=hz (by omega);subst hz)|subst hz));(try (conv=>whnf))))
 refine hLP _ _ _ Nat (fun k=>⟨[(0,.imm (.sl 2 (E.map kv2))),(1,.imm (.sl 2 (E.map kv2))),(5,.imm (.int .i64 (k:Nat)))],[]⟩) (fun k=>k≤E.length) (fun k=>E.length - k) 0 (Nat.zero_le _) ((qSL 0 rfl rfl)) ?_
 intro k hk
 have hho:=Nat.lt_or_ge k E.length
 cases hho with
 |inl hlt=>
  obtain⟨x,hx⟩:∃x,E[k]?=some x:=⟨E[k],List.getElem?_eq_getElem hlt⟩
  have hi:=Pe.U8 (a:=x) (b:=x) rfl
  (try (conv=>whnf));(repeat ((first|refine qT ?_|refine qF ?_|refine qO ?_|(with_reducible intro z hz);(first|(replace hz:=hz (by omega);subst hz)|subst hz));(try (conv=>whnf))))
  refine Idx.mk k (kv2 x) _ rfl (by simp[hx]) rfl ?_
  (try (conv=>whnf));(repeat ((first|refine qT ?_|refine qF ?_|refine qO ?_|(with_reducible intro z hz);(first|(replace hz:=hz (by omega);subst hz)|subst hz));(try (conv=>whnf))))
  refine Idx.mk k (kv2 x) _ rfl (by simp[hx]) rfl ?_
  (try (conv=>whnf));(repeat ((first|refine qT ?_|refine qF ?_|refine qO ?_|(with_reducible intro z hz);(first|(replace hz:=hz (by omega);subst hz)|subst hz));(try (conv=>whnf))))
  exact⟨k+1,by omega,by dsimp only;omega,(qSL 0 rfl rfl)⟩
 |inr hge=>
  (try (conv=>whnf));(repeat ((first|refine qT ?_|refine qF ?_|refine qO ?_|(with_reducible intro z hz);(first|(replace hz:=hz (by omega);subst hz)|subst hz));(try (conv=>whnf))))
  exact hfin _ (aA.refl _)
end F
end Go.Proofs.YtfjibfdelbodjaaGreat.Po
namespace Go.Proofs.YtfjibfdelbodjaaGreat.Po
open Go Go.Pv Go.RowKit
set_option linter.unusedSimpArgs false
open Lab Lcs Go.Proofs.YtfjibfdelbodjaaGreat Go.Proofs.YtfjibfdelbodjaaGreat.Pu
set_option maxRecDepth 10000
set_option maxHeartbeats 32000000
namespace F
theorem TT (a b:Str):gY a b=true↔toL a < toL b:=by
 unfold gY toL
 rw[Go.Proofs.bytesLess_eq,decide_eq_true_eq]
theorem U5 {a b:Str} (h:toL a=toL b):a=b:=by
 have:=congrArg ofL h
 rwa [UE,UE]at this
theorem U9 (a:List UInt8):¬a < a:=List.lt_irrefl a
theorem Vf {a b c:List UInt8} (h1:a < b) (h2:b < c):a < c:=List.lt_trans h1 h2
theorem Vb {a b:List UInt8} (h1:¬a < b) (h2:¬b < a):a=b:=List.le_antisymm (List.not_lt.1 h2) (List.not_lt.1 h1)
abbrev ltS (a b:Str):Prop:=gY a b=true
theorem Uk (a:Str):¬ltS a a:=fun h=>U9 _ ((TT _ _).1 h)
theorem UC {a b c:Str} (h1:ltS a b) (h2:ltS b c):ltS a c:=(TT _ _).2 (Vf ((TT _ _).1 h1) ((TT _ _).1 h2))
theorem Uh {a b:Str} (h1:¬ltS a b) (h2:¬ltS b a):a=b:=U5 (Vb (fun h=>h1 ((TT _ _).2 h)) fun h=>h2 ((TT _ _).2 h))
theorem Un (l:List Str):(Ue l).Pairwise fun a b=>¬ltS b a:=by
 have h:=List.pairwise_mergeSort (le:=fun x y:List UInt8=>decide (x≤y)) (fun a b c h1 h2=>by
  simp only[decide_eq_true_eq]at *
  exact List.le_trans h1 h2) (fun a b=>by
  rw[Bool.or_eq_true,decide_eq_true_eq,decide_eq_true_eq]
  exact List.le_total a b) (l.map toL)
 unfold Ue UY
 rw[List.pairwise_map]
 refine h.imp fun hab hlt=>?_
 have h2:=(TT _ _).1 hlt
 exact List.not_lt.2 (of_decide_eq_true hab) h2
theorem Ua:∀{l:List Str},l.Pairwise (fun a b=>¬ltS b a)→(ded l).Pairwise ltS
 |[],_=>List.Pairwise.nil
 |[x],_=>by simp[ded]
 |x::y::l,h=>by
  have h':=List.pairwise_cons.1 h
  have ih:=Ua h'.2
  unfold ded
  split
  ·exact ih
  ·rename_i hne
   refine List.pairwise_cons.2 ⟨fun z hz=>?_,ih⟩
   have hz:=(Bw z _).1 hz
   have h1:=h'.1 y List.mem_cons_self
   have hxy:ltS x y:=Classical.byContradiction fun hn=>hne (Uh hn h1)
   rcases List.mem_cons.1 hz with rfl|hz
   ·exact hxy
   ·have h2:=(List.pairwise_cons.1 h'.2).1 z hz
    by_cases hyz:ltS y z
    ·exact UC hxy hyz
    ·rw[←Uh hyz h2];exact hxy
theorem Ud:∀{a b:List Str},a.Pairwise ltS→b.Pairwise ltS→(∀z,z∈a↔z∈b)→a=b
 |[],[],_,_,_=>rfl
 |[],y::b,_,_,h=>absurd ((h y).2 List.mem_cons_self) (by simp)
 |x::a,[],_,_,h=>absurd ((h x).1 List.mem_cons_self) (by simp)
 |x::a,y::b,ha,hb,h=>by
  have ha':=List.pairwise_cons.1 ha
  have hb':=List.pairwise_cons.1 hb
  have hxy:x=y:=by
   rcases List.mem_cons.1 ((h x).1 List.mem_cons_self) with h1|h1
   ·exact h1
   ·rcases List.mem_cons.1 ((h y).2 List.mem_cons_self) with h2|h2
    ·exact h2.symm
    ·exact absurd (UC (ha'.1 y h2) (hb'.1 x h1)) (Uk x)
  subst hxy
  have:a=b:=Ud ha'.2 hb'.2 fun z=>by
   constructor
   ·intro hz
    rcases List.mem_cons.1 ((h z).1 (List.mem_cons_of_mem _ hz)) with rfl|h1
    ·exact absurd (ha'.1 z hz) (Uk z)
    ·exact h1
   ·intro hz
    rcases List.mem_cons.1 ((h z).2 (List.mem_cons_of_mem _ hz)) with rfl|h1
    ·exact absurd (hb'.1 z hz) (Uk z)
    ·exact h1
  rw[this]
def TU (x:Str) (out:List Str):List Str:=if (out.dropWhile fun y=>gY y x).head?=some x then out else (out.takeWhile fun y=>gY y x)++x::out.dropWhile fun y=>gY y x
theorem UM (x:Str) (out:List Str):(TU x out).length≤out.length+1:=by
 unfold TU
 split
 ·omega
 ·have e:(out.takeWhile fun y=>gY y x).length+(out.dropWhile fun y=>gY y x).length=out.length:=by rw[←List.length_append,List.takeWhile_append_dropWhile]
  rw[List.length_append,List.length_cons,←Nat.add_assoc,e]
  exact Nat.le_refl _
theorem Us {x z:Str} {out:List Str}:z∈TU x out↔z=x∨z∈out:=by
 have ht:=List.takeWhile_append_dropWhile (p:=fun y=>gY y x) (l:=out)
 unfold TU
 split
 ·rename_i h
  constructor
  ·exact Or.inr
  ·rintro (rfl|h')
   ·rw[←ht]
    exact List.mem_append_right _ (List.mem_of_mem_head? h)
   ·exact h'
 ·rw[List.mem_append,List.mem_cons]
  constructor
  ·rintro (h|rfl|h)
   ·right;rw[←ht];exact List.mem_append_left _ h
   ·left;rfl
   ·right;rw[←ht];exact List.mem_append_right _ h
  ·rintro (rfl|h)
   ·right;left;rfl
   ·rw[←ht]at h
    rcases List.mem_append.1 h with h|h
    ·left;exact h
    ·right;right;exact h
theorem T9 {x:Str}:∀{out:List Str},out.Pairwise ltS→(TU x out).Pairwise ltS
 |[],_=>by simp[TU]
 |y::out,h=>by
  rw[List.pairwise_cons]at h
  by_cases hy:gY y x=true
  ·have hi:TU x (y::out)=y::TU x out:=by
    unfold TU
    simp only[List.dropWhile_cons,List.takeWhile_cons,hy,if_true]
    split
    ·rfl
    ·rfl
   rw[hi,List.pairwise_cons]
   refine⟨fun z hz=>?_,T9 h.2⟩
   rcases Us.1 hz with rfl|hz
   ·exact hy
   ·exact h.1 z hz
  ·have hi:TU x (y::out)=if y=x then y::out else x::y::out:=by
    unfold TU
    simp[List.dropWhile_cons,List.takeWhile_cons,hy]
   rw[hi]
   split
   ·exact List.pairwise_cons.2 h
   ·rename_i hne
    have hxy:ltS x y:=Classical.byContradiction fun hn=>hne (Uh hy hn)
    rw[List.pairwise_cons,List.pairwise_cons]
    refine⟨fun z hz=>?_,h⟩
    rcases List.mem_cons.1 hz with rfl|hz
    ·exact hxy
    ·exact UC hxy (h.1 z hz)
def TW (L:List Str):List Str:=L.foldl (fun o x=>TU x o) []
theorem Uy (L:List Str) (x:Str):TW (L++[x])=TU x (TW L):=by
 unfold TW
 rw[List.foldl_append]
 rfl
theorem TY:∀(L:List Str) (o:List Str),o.Pairwise ltS→(L.foldl (fun o x=>TU x o) o).Pairwise ltS∧(∀z,z∈L.foldl (fun o x=>TU x o) o↔z∈o∨z∈L)∧(L.foldl (fun o x=>TU x o) o).length≤o.length+L.length
 |[],o,h=>⟨h,fun z=>by simp,Nat.le_refl _⟩
 |x::L,o,h=>by
  obtain⟨h1,h2,h3⟩:=TY L (TU x o) (T9 h)
  refine⟨h1,fun z=>?_,?_⟩
  ·rw[List.foldl_cons,h2 z,Us,List.mem_cons]
   constructor
   ·rintro ((h|h)|h)
    ·exact Or.inr (Or.inl h)
    ·exact Or.inl h
    ·exact Or.inr (Or.inr h)
   ·rintro (h|h|h)
    ·exact Or.inl (Or.inr h)
    ·exact Or.inl (Or.inl h)
    ·exact Or.inr h
  ·have:=UM x o
   rw[List.foldl_cons,List.length_cons]
   omega
def frL (cs:List Ei):List Str:=(cs.filter Uu).map fun d=>d.it.fr
theorem U6 (cs:List Ei):(frL cs).length≤cs.length:=by
 unfold frL
 rw[List.length_map]
 exact List.length_filter_le _ _
theorem U0 (l:List Gz):TW (frL (amL (aW l)))=Uf l:=by
 obtain⟨h1,h2,_⟩:=TY (frL (amL (aW l))) [] List.Pairwise.nil
 refine Ud h1 (Ua (Un _)) fun z=>?_
 unfold TW Uf
 rw[h2 z,Bw,(UF _).mem_iff]
 simp[puL,frL]
theorem UW {cs:List Ei} {k:Nat} {d:Ei} (h:cs[k]?=some d):frL (cs.take (k+1))=if d.it.fr=⟨#[]⟩ then frL (cs.take k) else frL (cs.take k)++[d.it.fr]:=by
 unfold frL
 rw[Ub h]
 unfold Uu
 by_cases hd:d.it.fr=⟨#[]⟩
 ·rw[if_pos hd,if_neg (by rw[decide_eq_true hd];simp)]
 ·rw[if_neg hd,if_pos (by rw[decide_eq_false hd];rfl),List.map_append]
  rfl
theorem UO {l:List Gz} {m:Nat} (hm:m≤300) (h30:bO l m):PC Tryz.prog aM 26 [.sl 4 (l.map gzv)] [.sl 1 ((Uf l).map IV.str)]:=by
 have hCh:=Iw hm h30
 have hDl:=h30.jI
 have hcl:(amL (aW l)).length≤(aW l).length:=List.length_filter_le _ _
 rw[←U0]
 generalize amL (aW l)=cs at *
 have hmc:(cs.map eiv).length=cs.length:=List.length_map _
 refine PC.aj (T:=dZ) aS bB rfl mixed Tryz.func26 rfl rfl (Nat.le_of_ble_eq_true rfl) ?_;intro Γ C WK LP fin h0 hW hC hB hR hLP hfin
 have h00:Γ.n0=0:=h0
 (try (conv=>whnf));(repeat ((first|refine qT ?_|refine qF ?_|refine qO ?_|(with_reducible intro z hz);(first|(replace hz:=hz (by omega);subst hz)|subst hz)|(refine ah.mk _ (hC _ _ _ (PCw.of hCh)) (fun js hjs=>?_);subst hjs));(try (conv=>whnf))))
 refine hLP _ _ _ Nat (fun k=>⟨[(3,.imm (.sl 1 ((TW (frL (cs.take k))).map IV.str))),(4,.imm (.sl 28 (cs.map eiv))),(5,.imm (.int .i64 (k:Nat)))],[]⟩) (fun k=>k≤cs.length) (fun k=>cs.length - k) 0 (Nat.zero_le _) ((aC.frz 0 [] rfl rfl (ILe.refl _)).trans (qSL 0 rfl rfl)) ?_
 intro k hk
 have hho:=Nat.lt_or_ge k cs.length
 cases hho with
 |inl hlt=>
  obtain⟨d,hd⟩:∃d,cs[k]?=some d:=⟨cs[k],List.getElem?_eq_getElem hlt⟩
  have hst:=UW hd
  have hfl:=U6 (cs.take k)
  rw[List.length_take]at hfl
  obtain⟨_,_,hol⟩:=TY (frL (cs.take k)) [] List.Pairwise.nil
  rw[show (frL (cs.take k)).foldl (fun o x=>TU x o) []=TW (frL (cs.take k)) from rfl,List.length_nil]at hol
  have hnx:TW (frL (cs.take (k+1)))=if d.it.fr=⟨#[]⟩ then TW (frL (cs.take k)) else TU d.it.fr (TW (frL (cs.take k))):=by
   rw[hst]
   split
   ·rfl
   ·rw[Uy]
  clear hst
  generalize TW (frL (cs.take k))=out at *
  have hml:(out.map IV.str).length=out.length:=List.length_map _
  (try (conv=>whnf));(repeat ((first|refine qT ?_|refine qF ?_|refine qO ?_|(with_reducible intro z hz);(first|(replace hz:=hz (by omega);subst hz)|subst hz));(try (conv=>whnf))))
  refine Idx.mk k (eiv d) _ rfl (by simp[hd]) rfl ?_
  (try (conv=>whnf));(repeat ((first|refine qT ?_|refine qF ?_|refine qO ?_|(with_reducible intro z hz);(first|(replace hz:=hz (by omega);subst hz)|subst hz));(try (conv=>whnf))))
  refine hLP _ _ _ Nat (fun j=>⟨[(3,.imm (.sl 1 (out.map IV.str))),(4,.imm (.sl 28 (cs.map eiv))),(5,.imm (.int .i64 (k:Nat))),(6,.imm (.str d.it.fr)),(7,.imm (.int .i64 (j:Nat)))],[]⟩) (fun j=>j≤out.length∧∀b∈out.take j,gY b d.it.fr=true) (fun j=>out.length - j) 0 ⟨Nat.zero_le _,by simp⟩ ((qSL 0 rfl rfl)) ?_
  rintro j ⟨hj,hall⟩
  have hfinish:∀(hh:j=out.length∨∃y,out[j]?=some y∧gY y d.it.fr=false),TU d.it.fr out=if out[j]?=some d.it.fr then out else out.take j++d.it.fr::out.drop j:=fun hh=>by
   obtain⟨h1,h2⟩:=OD (p:=fun y=>gY y d.it.fr) hall hh
   unfold TU
   rw[h1,h2,List.head?_drop]
  generalize d.it.fr=x at *
  have hhj:=Nat.lt_or_ge j out.length
  cases hhj with
  |inl hjl=>
   obtain⟨b,hb⟩:∃b,out[j]?=some b:=⟨out[j],List.getElem?_eq_getElem hjl⟩
   by_cases hab:gY b x=true
   ·(try (conv=>whnf));(repeat ((first|refine qT ?_|refine qF ?_|refine qO ?_|(with_reducible intro z hz);(first|(replace hz:=hz (by omega);subst hz)|subst hz));(try (conv=>whnf))))
    refine Idx.mk j (.str b) _ rfl (by simp[hb]) rfl ?_
    (try (conv=>whnf));(repeat ((first|refine qT ?_|refine qF ?_|refine qO ?_|(with_reducible intro z hz);(first|(replace hz:=hz (by omega);subst hz)|subst hz));(try (conv=>whnf))))
    exact⟨j+1,⟨by omega,fun y hy=>by
     rw[take_at hb]at hy
     rcases List.mem_append.1 hy with hy|hy
     ·exact hall y hy
     ·obtain rfl:=List.mem_singleton.1 hy;exact hab⟩,by dsimp only;omega,(qSL 0 rfl rfl)⟩
   ·have hins:=hfinish (Or.inr ⟨b,hb,by simpa using hab⟩)
    by_cases hx0:x=⟨#[]⟩
    ·rw[if_pos hx0]at hnx
     (try (conv=>whnf));(repeat ((first|refine qT ?_|refine qF ?_|refine qO ?_|(with_reducible intro z hz);(first|(replace hz:=hz (by omega);subst hz)|subst hz));(try (conv=>whnf))))
     refine Idx.mk j (.str b) _ rfl (by simp[hb]) rfl ?_
     (try (conv=>whnf));(repeat ((first|refine qT ?_|refine qF ?_|refine qO ?_|(with_reducible intro z hz);(first|(replace hz:=hz (by omega);subst hz)|subst hz));(try (conv=>whnf))))
     exact⟨k+1,by omega,by dsimp only;omega,by
      dsimp only[]
      rw[hnx]
      exact (qSL 0 rfl rfl)⟩
    rw[if_neg hx0]at hnx
    by_cases hbe:b=x
    ·rw[if_pos (by rw[hb,hbe])]at hins
     (try (conv=>whnf));(repeat ((first|refine qT ?_|refine qF ?_|refine qO ?_|(with_reducible intro z hz);(first|(replace hz:=hz (by omega);subst hz)|subst hz));(try (conv=>whnf))))
     refine Idx.mk j (.str b) _ rfl (by simp[hb]) rfl ?_
     (try (conv=>whnf));(repeat ((first|refine qT ?_|refine qF ?_|refine qO ?_|(with_reducible intro z hz);(first|(replace hz:=hz (by omega);subst hz)|subst hz));(try (conv=>whnf))))
     refine Idx.mk j (.str b) _ rfl (by simp[hb]) rfl ?_
     (try (conv=>whnf));(repeat ((first|refine qT ?_|refine qF ?_|refine qO ?_|(with_reducible intro z hz);(first|(replace hz:=hz (by omega);subst hz)|subst hz));(try (conv=>whnf))))
     exact⟨k+1,by omega,by dsimp only;omega,by
      dsimp only[]
      rw[hnx,hins]
      exact (qSL 0 rfl rfl)⟩
    ·rw[if_neg (by rw[hb];simpa using hbe)]at hins
     (try (conv=>whnf));(repeat ((first|refine qT ?_|refine qF ?_|refine qO ?_|(with_reducible intro z hz);(first|(replace hz:=hz (by omega);subst hz)|subst hz));(try (conv=>whnf))))
     refine Idx.mk j (.str b) _ rfl (by simp[hb]) rfl ?_
     (try (conv=>whnf));(repeat ((first|refine qT ?_|refine qF ?_|refine qO ?_|(with_reducible intro z hz);(first|(replace hz:=hz (by omega);subst hz)|subst hz));(try (conv=>whnf))))
     refine Idx.mk j (.str b) _ rfl (by simp[hb]) rfl ?_
     (try (conv=>whnf));(repeat ((first|refine qT ?_|refine qF ?_|refine qO ?_|(with_reducible intro z hz);(first|(replace hz:=hz (by omega);subst hz)|subst hz));(try (conv=>whnf))))
     exact⟨k+1,by omega,by dsimp only;omega,by
      dsimp only[]
      rw[hnx,hins]
      exact (aC.frz 0 ((out.take j++x::out.drop j).map IV.str) rfl (by simp) (ILe.refl _)).trans (qSL 0 rfl rfl)⟩
  |inr hjg=>
   obtain rfl:j=out.length:=by omega
   have hins:=hfinish (Or.inl rfl)
   rw[if_neg (by rw[List.getElem?_eq_none (Nat.le_refl _)];simp)]at hins
   by_cases hx0:x=⟨#[]⟩
   ·rw[if_pos hx0]at hnx
    (try (conv=>whnf));(repeat ((first|refine qT ?_|refine qF ?_|refine qO ?_|(with_reducible intro z hz);(first|(replace hz:=hz (by omega);subst hz)|subst hz));(try (conv=>whnf))))
    exact⟨k+1,by omega,by dsimp only;omega,by
     dsimp only[]
     rw[hnx]
     exact (qSL 0 rfl rfl)⟩
   rw[if_neg hx0]at hnx
   rw[List.take_length,List.drop_length]at hins
   (try (conv=>whnf));(repeat ((first|refine qT ?_|refine qF ?_|refine qO ?_|(with_reducible intro z hz);(first|(replace hz:=hz (by omega);subst hz)|subst hz));(try (conv=>whnf))))
   exact⟨k+1,by omega,by dsimp only;omega,by
    dsimp only[]
    rw[hnx,hins]
    exact (aC.frz 0 ((out++[x]).map IV.str) rfl (by simp[List.take_of_length_le,List.drop_of_length_le]) (ILe.refl _)).trans (qSL 0 rfl rfl)⟩
 |inr hge=>
  obtain rfl:k=cs.length:=by omega
  rw[List.take_length]
  (try (conv=>whnf));(repeat ((first|refine qT ?_|refine qF ?_|refine qO ?_|(with_reducible intro z hz);(first|(replace hz:=hz (by omega);subst hz)|subst hz));(try (conv=>whnf))))
  exact hfin _ (aA.refl _)
end F
end Go.Proofs.YtfjibfdelbodjaaGreat.Po
namespace Go.Proofs.YtfjibfdelbodjaaGreat.Po
open Go Go.Pv Go.RowKit
set_option linter.unusedSimpArgs false
open Lab Lcs Go.Proofs.YtfjibfdelbodjaaGreat Go.Proofs.YtfjibfdelbodjaaGreat.Pu
set_option maxRecDepth 10000
set_option maxHeartbeats 32000000
namespace F
def kyB (d e:Ei):Bool:=decide (e.act=d.act)&&decide (e.item=d.item)
def kyP (d:Ei) (x:Int×Int):Bool:=decide (x=(d.act,d.item))
theorem UA {α:Type} {p:α→Bool} {L:List α} {k:Nat} {x:α} (h:L[k]?=some x):(L.take (k+1)).any p=((L.take k).any p||p x):=by
 rw[take_at h,List.any_append]
 simp
theorem Uv {l:List Gz} {m:Nat} (h30:bO l m) (d:Ei) (hd:d∈amL (aW l)):(pends l).any (kyP d)=!((brk l).any fun day=>(onG l day d.it.fr).any (kyB d)):=by
 have hu:∀x∈amL (aW l),x.act=d.act→x.item=d.item→x=d:=fun x hx h1 h2=>by
  have g1:=h30.finds (List.mem_filter.1 hx).1
  have g2:=h30.finds (List.mem_filter.1 hd).1
  rw[h1,h2,g2]at g1
  exact (Option.some.inj g1).symm
 cases hR:cK (bn (allA l)) (aW l) d with
 |nil=>
  have h1:(pends l).any (kyP d)=true:=by
   refine List.any_eq_true.2 ⟨(d.act,d.item),?_,decide_eq_true rfl⟩
   unfold pends pdL
   exact List.mem_map.2 ⟨d,List.mem_filter.2 ⟨hd,by rw[hR];rfl⟩,rfl⟩
  have h2:((brk l).any fun day=>(onG l day d.it.fr).any (kyB d))=false:=by
   rw[List.any_eq_false]
   intro day _ hday
   rw[List.any_eq_true]at hday
   obtain⟨e,he,hk⟩:=hday
   unfold kyB at hk
   rw[Bool.and_eq_true]at hk
   obtain⟨g1,g2⟩:=List.mem_filter.1 he
   have:=hu e g1 (of_decide_eq_true hk.1) (of_decide_eq_true hk.2)
   subst this
   unfold onB at g2
   rw[hR,Bool.and_eq_true,mh (show Can [] from trivial)]at g2
   cases g2.2
  rw[h1,h2]
  rfl
 |cons s L=>
  have hc:=tJ (bn (allA l)) (aW l) d
  have h1:(pends l).any (kyP d)=false:=by
   rw[List.any_eq_false]
   intro x hx hk
   unfold pends pdL at hx
   obtain⟨e,he,rfl⟩:=List.mem_map.1 hx
   obtain⟨g1,g2⟩:=List.mem_filter.1 he
   have hk:=of_decide_eq_true hk
   injection hk with k1 k2
   have:=hu e g1 k1 k2
   subst this
   rw[hR]at g2
   cases g2
  have h2:((brk l).any fun day=>(onG l day d.it.fr).any (kyB d))=true:=by
   rw[List.any_eq_true]
   refine⟨s.1,?_,?_⟩
   ·rw[JB]
    refine List.mem_cons_of_mem _ (List.mem_flatMap.2 ⟨d,hd,?_⟩)
    rw[hR]
    exact (Sd List.mem_cons_self).1
   ·rw[List.any_eq_true]
    refine⟨d,List.mem_filter.2 ⟨hd,?_⟩,by unfold kyB;rw[decide_eq_true rfl,decide_eq_true rfl];rfl⟩
    unfold onB
    rw[decide_eq_true (p:=d.it.fr=d.it.fr) rfl,Bool.or_true,Bool.true_and,mh hc,Ip,List.any_eq_true,hR]
    rw[hR]at hc
    refine⟨s,List.mem_cons_self,decide_eq_true ⟨Int.le_refl _,?_⟩⟩
    obtain⟨_,g2,_,_⟩:=hc
    omega
  rw[h1,h2]
  rfl
theorem Va (l:List Gz) (hF:Qy l):PC Tryz.prog aM 6 [.sl 4 (l.map gzv)] [.bool true]:=by
 have hA:=IW
 have hFw:=Qw l hF
 cases hb:CJ l 30 with
 |false=>
  rw[hb]at hFw
  refine PC.aj (T:=dZ) aS bB rfl mixed Tryz.func6 rfl rfl (Nat.le_of_ble_eq_true rfl) ?_;intro Γ C WK LP fin h0 hW hC hB hR hLP hfin
  (try (conv=>whnf));(repeat ((first|refine qT ?_|refine qF ?_|refine qO ?_|(with_reducible intro z hz);(first|(replace hz:=hz (by omega);subst hz)|subst hz)|(refine ah.mk _ (hC _ _ _ (PCw.of hA)) (fun js hjs=>?_);subst hjs)|(refine ah.mk _ (hC _ _ _ (PCw.of hFw)) (fun js hjs=>?_);subst hjs));(try (conv=>whnf))))
  exact hfin _ (aA.refl _)
 |true=>
  rw[hb]at hFw
  have h30:=Rc (m:=30) (by omega) hF.2 hb
  have hPd:=U4 (by omega) h30
  have hWa:=U2 (by omega) h30
  have hDl:=h30.jI
  have hpe:(pends l).length≤(aW l).length:=Ul _ _ _
  have hPl:=UK (pends l) (by omega)
  have hPu:=U1 (by omega) h30
  have hRp:=UO (by omega) h30
  have hpl:(Uf l).length≤1000:=by
   unfold Uf
   have h1:=A8 (Ue (puL (aW l)))
   have h2:=Uq (puL (aW l))
   have h3:=Ui (aW l)
   omega
  have hSm:=Eo (Uf l) (Uf l) (by omega) (by omega)
  rw[decide_eq_true rfl]at hSm
  have hBk:=II (by omega) h30
  have hbl:=vk (by omega) h30
  have hCh:=Iw (by omega) h30
  have hcl:(amL (aW l)).length≤(aW l).length:=List.length_filter_le _ _
  have hOn:∀day p,_:=fun day p=>Jv (by omega) h30 day p
  have hol:∀day p,_:=fun day p=>Qp h30 day p
  have hwc:=Uv h30
  generalize Uf l=U at *
  generalize pends l=E at *
  generalize brk l=T at *
  generalize amL (aW l)=cs at *
  generalize (aW l).length=dn at *
  have hme:(E.map kv2).length=E.length:=List.length_map _
  have hmt:(T.map kI).length=T.length:=List.length_map _
  have hmc:(cs.map eiv).length=cs.length:=List.length_map _
  refine PC.aj (T:=dZ) aS bB rfl mixed Tryz.func6 rfl rfl (Nat.le_of_ble_eq_true rfl) ?_;intro Γ C WK LP fin h0 hW hC hB hR hLP hfin
  have h00:Γ.n0=0:=h0
  (try (conv=>whnf));(repeat ((first|refine qT ?_|refine qF ?_|refine qO ?_|(with_reducible intro z hz);(first|(replace hz:=hz (by omega);subst hz)|subst hz)|(refine ah.mk _ (hC _ _ _ (PCw.of hA)) (fun js hjs=>?_);subst hjs)|(refine ah.mk _ (hC _ _ _ (PCw.of hFw)) (fun js hjs=>?_);subst hjs)|(refine ah.mk _ (hC _ _ _ (PCw.of hPd)) (fun js hjs=>?_);subst hjs)|(refine ah.mk _ (hC _ _ _ (PCw.of hPu)) (fun js hjs=>?_);subst hjs)|(refine ah.mk _ (hC _ _ _ (PCw.of hRp)) (fun js hjs=>?_);subst hjs)|(refine ah.mk _ (hC _ _ _ (PCw.of hSm)) (fun js hjs=>?_);subst hjs)|(refine ah.mk _ (hC _ _ _ (PCw.of hWa)) (fun js hjs=>?_);subst hjs)|(refine ah.mk _ (hC _ _ _ (PCw.of hPl)) (fun js hjs=>?_);subst hjs)|(refine ah.mk _ (hC _ _ _ (PCw.of hBk)) (fun js hjs=>?_);subst hjs)|(refine ah.mk _ (hC _ _ _ (PCw.of hCh)) (fun js hjs=>?_);subst hjs));(try (conv=>whnf))))
  refine hLP _ _ _ Nat (fun k=>⟨[(0,.imm (.sl 4 (l.map gzv))),(3,.imm (.sl 2 (E.map kv2))),(4,.imm (.sl 1 (T.map kI))),(5,.imm (.sl 28 (cs.map eiv))),(6,.imm (.int .i64 (k:Nat)))],[]⟩) (fun k=>k≤cs.length) (fun k=>cs.length - k) 0 (Nat.zero_le _) ((qSL 0 rfl rfl)) ?_
  intro k hk
  have hho:=Nat.lt_or_ge k cs.length
  cases hho with
  |inr hge=>
   (try (conv=>whnf));(repeat ((first|refine qT ?_|refine qF ?_|refine qO ?_|(with_reducible intro z hz);(first|(replace hz:=hz (by omega);subst hz)|subst hz));(try (conv=>whnf))))
   exact hfin _ (aA.refl _)
  |inl hlt=>
   refine (?_:∀Q:Exit→AS→Prop,vcS _ _ _ _ _ _ _ (dV _ _ _ _ _ _ Q)) _;intro Q
   obtain⟨d,hd⟩:∃d,cs[k]?=some d:=⟨cs[k],List.getElem?_eq_getElem hlt⟩
   have hwd:=hwc d (List.mem_of_getElem? hd)
   clear hwc
   (try (conv=>whnf));(repeat ((first|refine qT ?_|refine qF ?_|refine qO ?_|(with_reducible intro z hz);(first|(replace hz:=hz (by omega);subst hz)|subst hz));(try (conv=>whnf))))
   refine hLP _ _ _ Nat (fun j=>⟨[(0,.imm (.sl 4 (l.map gzv))),(3,.imm (.sl 2 (E.map kv2))),(4,.imm (.sl 1 (T.map kI))),(5,.imm (.sl 28 (cs.map eiv))),(6,.imm (.int .i64 (k:Nat))),(7,.imm (.bool ((E.take j).any (kyP d)))),(8,.imm (.bool false)),(9,.imm (.int .i64 (j:Nat)))],[]⟩) (fun j=>j≤E.length) (fun j=>E.length - j) 0 (Nat.zero_le _) ((qSL 0 rfl rfl)) ?_
   intro j hj
   have hhj:=Nat.lt_or_ge j E.length
   cases hhj with
   |inl hjl=>
    refine (?_:∀Q:Exit→AS→Prop,vcS _ _ _ _ _ _ _ (dV _ _ _ _ _ _ Q)) _;intro Q
    obtain⟨x,hx⟩:∃x,E[j]?=some x:=⟨E[j],List.getElem?_eq_getElem hjl⟩
    have hst:=UA (p:=kyP d) hx
    generalize (E.take j).any (kyP d)=wv at *
    cases wv with
    |true=>
     rw[Bool.true_or]at hst
     (try (conv=>whnf));(repeat ((first|refine qT ?_|refine qF ?_|refine qO ?_|(with_reducible intro z hz);(first|(replace hz:=hz (by omega);subst hz)|subst hz));(try (conv=>whnf))))
     exact⟨j+1,by omega,by dsimp only;omega,by
      dsimp only[]
      rw[hst]
      exact (qSL 0 rfl rfl)⟩
    |false=>
     rw[Bool.false_or]at hst
     by_cases hxd:x=(d.act,d.item)
     ·have hi:=Pe.U8 hxd
      rw[show kyP d x=true from decide_eq_true hxd]at hst
      (try (conv=>whnf));(repeat ((first|refine qT ?_|refine qF ?_|refine qO ?_|(with_reducible intro z hz);(first|(replace hz:=hz (by omega);subst hz)|subst hz));(try (conv=>whnf))))
      refine Idx.mk j (kv2 x) _ rfl (by simp[hx]) rfl ?_
      (try (conv=>whnf));(repeat ((first|refine qT ?_|refine qF ?_|refine qO ?_|(with_reducible intro z hz);(first|(replace hz:=hz (by omega);subst hz)|subst hz));(try (conv=>whnf))))
      refine Idx.mk k (eiv d) _ rfl (by simp[hd]) rfl ?_
      (try (conv=>whnf));(repeat ((first|refine qT ?_|refine qF ?_|refine qO ?_|(with_reducible intro z hz);(first|(replace hz:=hz (by omega);subst hz)|subst hz));(try (conv=>whnf))))
      refine Idx.mk k (eiv d) _ rfl (by simp[hd]) rfl ?_
      (try (conv=>whnf));(repeat ((first|refine qT ?_|refine qF ?_|refine qO ?_|(with_reducible intro z hz);(first|(replace hz:=hz (by omega);subst hz)|subst hz));(try (conv=>whnf))))
      exact⟨j+1,by omega,by dsimp only;omega,by
       dsimp only[]
       rw[hst]
       exact (qSL 0 rfl rfl)⟩
     ·have hi:=Pe.Ve hxd
      rw[show kyP d x=false from decide_eq_false hxd]at hst
      (try (conv=>whnf));(repeat ((first|refine qT ?_|refine qF ?_|refine qO ?_|(with_reducible intro z hz);(first|(replace hz:=hz (by omega);subst hz)|subst hz));(try (conv=>whnf))))
      refine Idx.mk j (kv2 x) _ rfl (by simp[hx]) rfl ?_
      (try (conv=>whnf));(repeat ((first|refine qT ?_|refine qF ?_|refine qO ?_|(with_reducible intro z hz);(first|(replace hz:=hz (by omega);subst hz)|subst hz));(try (conv=>whnf))))
      refine Idx.mk k (eiv d) _ rfl (by simp[hd]) rfl ?_
      (try (conv=>whnf));(repeat ((first|refine qT ?_|refine qF ?_|refine qO ?_|(with_reducible intro z hz);(first|(replace hz:=hz (by omega);subst hz)|subst hz));(try (conv=>whnf))))
      refine Idx.mk k (eiv d) _ rfl (by simp[hd]) rfl ?_
      (try (conv=>whnf));(repeat ((first|refine qT ?_|refine qF ?_|refine qO ?_|(with_reducible intro z hz);(first|(replace hz:=hz (by omega);subst hz)|subst hz));(try (conv=>whnf))))
      exact⟨j+1,by omega,by dsimp only;omega,by
       dsimp only[]
       rw[hst]
       exact (qSL 0 rfl rfl)⟩
   |inr hjg=>
    obtain rfl:j=E.length:=by omega
    rw[List.take_length]
    generalize E.any (kyP d)=W at *
    (try (conv=>whnf));(repeat ((first|refine qT ?_|refine qF ?_|refine qO ?_|(with_reducible intro z hz);(first|(replace hz:=hz (by omega);subst hz)|subst hz));(try (conv=>whnf))))
    refine hLP _ _ _ Nat (fun i=>⟨[(0,.imm (.sl 4 (l.map gzv))),(3,.imm (.sl 2 (E.map kv2))),(4,.imm (.sl 1 (T.map kI))),(5,.imm (.sl 28 (cs.map eiv))),(6,.imm (.int .i64 (k:Nat))),(7,.imm (.bool W)),(8,.imm (.bool ((T.take i).any fun day=>(onG l day d.it.fr).any (kyB d)))),(10,.imm (.int .i64 (i:Nat)))],[]⟩) (fun i=>i≤T.length) (fun i=>T.length - i) 0 (Nat.zero_le _) ((qSL 0 rfl rfl)) ?_
    intro i hi0
    have hhi:=Nat.lt_or_ge i T.length
    cases hhi with
    |inl hil=>
     refine (?_:∀Q:Exit→AS→Prop,vcS _ _ _ _ _ _ _ (dV _ _ _ _ _ _ Q)) _;intro Q
     obtain⟨t,ht⟩:∃t,T[i]?=some t:=⟨T[i],List.getElem?_eq_getElem hil⟩
     have hst:=UA (p:=fun day=>(onG l day d.it.fr).any (kyB d)) ht
     have hOt:=hOn t d.it.fr
     have hlt2:=hol t d.it.fr
     generalize ((T.take i).any fun day=>(onG l day d.it.fr).any (kyB d))=cv at *
     generalize onG l t d.it.fr=G at *
     have hmg:(G.map eiv).length=G.length:=List.length_map _
     (try (conv=>whnf));(repeat ((first|refine qT ?_|refine qF ?_|refine qO ?_|(with_reducible intro z hz);(first|(replace hz:=hz (by omega);subst hz)|subst hz));(try (conv=>whnf))))
     refine Idx.mk i (kI t) _ rfl (by simp[ht]) rfl ?_
     (try (conv=>whnf));(repeat ((first|refine qT ?_|refine qF ?_|refine qO ?_|(with_reducible intro z hz);(first|(replace hz:=hz (by omega);subst hz)|subst hz));(try (conv=>whnf))))
     refine Idx.mk k (eiv d) _ rfl (by simp[hd]) rfl ?_
     (try (conv=>whnf));(repeat ((first|refine qT ?_|refine qF ?_|refine qO ?_|(with_reducible intro z hz);(first|(replace hz:=hz (by omega);subst hz)|subst hz)|(refine ah.mk _ (hC _ _ _ (PCw.of hOt)) (fun js hjs=>?_);subst hjs));(try (conv=>whnf))))
     refine hLP _ _ _ Nat (fun q=>⟨[(0,.imm (.sl 4 (l.map gzv))),(3,.imm (.sl 2 (E.map kv2))),(4,.imm (.sl 1 (T.map kI))),(5,.imm (.sl 28 (cs.map eiv))),(6,.imm (.int .i64 (k:Nat))),(7,.imm (.bool W)),(8,.imm (.bool (cv||(G.take q).any (kyB d)))),(10,.imm (.int .i64 (i:Nat))),(11,.imm (.sl 28 (G.map eiv))),(12,.imm (.int .i64 (q:Nat)))],[]⟩) (fun q=>q≤G.length) (fun q=>G.length - q) 0 (Nat.zero_le _) (by
      rw[show (cv||(G.take 0).any (kyB d))=cv by simp]
      exact (qSL 0 rfl rfl)) ?_
     intro q hq
     have hhq:=Nat.lt_or_ge q G.length
     cases hhq with
     |inl hql=>
      refine (?_:∀Q:Exit→AS→Prop,vcS _ _ _ _ _ _ _ (dV _ _ _ _ _ _ Q)) _;intro Q
      obtain⟨e,he⟩:∃e,G[q]?=some e:=⟨G[q],List.getElem?_eq_getElem hql⟩
      have hsq:(cv||(G.take (q+1)).any (kyB d))=((cv||(G.take q).any (kyB d))||kyB d e):=by rw[UA he,Bool.or_assoc]
      generalize (cv||(G.take q).any (kyB d))=cw at *
      cases cw with
      |true=>
       rw[Bool.true_or]at hsq
       (try (conv=>whnf));(repeat ((first|refine qT ?_|refine qF ?_|refine qO ?_|(with_reducible intro z hz);(first|(replace hz:=hz (by omega);subst hz)|subst hz));(try (conv=>whnf))))
       exact⟨q+1,by omega,by dsimp only;omega,by
        dsimp only[]
        rw[hsq]
        exact (qSL 0 rfl rfl)⟩
      |false=>
       rw[Bool.false_or]at hsq
       by_cases h1:e.act=d.act
       ·by_cases h2:e.item=d.item
        ·rw[show kyB d e=true by unfold kyB;rw[decide_eq_true h1,decide_eq_true h2];rfl]at hsq
         (try (conv=>whnf));(repeat ((first|refine qT ?_|refine qF ?_|refine qO ?_|(with_reducible intro z hz);(first|(replace hz:=hz (by omega);subst hz)|subst hz));(try (conv=>whnf))))
         refine Idx.mk q (eiv e) _ rfl (by simp[he]) rfl ?_
         (try (conv=>whnf));(repeat ((first|refine qT ?_|refine qF ?_|refine qO ?_|(with_reducible intro z hz);(first|(replace hz:=hz (by omega);subst hz)|subst hz));(try (conv=>whnf))))
         refine Idx.mk k (eiv d) _ rfl (by simp[hd]) rfl ?_
         (try (conv=>whnf));(repeat ((first|refine qT ?_|refine qF ?_|refine qO ?_|(with_reducible intro z hz);(first|(replace hz:=hz (by omega);subst hz)|subst hz));(try (conv=>whnf))))
         refine Idx.mk q (eiv e) _ rfl (by simp[he]) rfl ?_
         (try (conv=>whnf));(repeat ((first|refine qT ?_|refine qF ?_|refine qO ?_|(with_reducible intro z hz);(first|(replace hz:=hz (by omega);subst hz)|subst hz));(try (conv=>whnf))))
         refine Idx.mk k (eiv d) _ rfl (by simp[hd]) rfl ?_
         (try (conv=>whnf));(repeat ((first|refine qT ?_|refine qF ?_|refine qO ?_|(with_reducible intro z hz);(first|(replace hz:=hz (by omega);subst hz)|subst hz));(try (conv=>whnf))))
         exact⟨q+1,by omega,by dsimp only;omega,by
          dsimp only[]
          rw[hsq]
          exact (qSL 0 rfl rfl)⟩
        ·rw[show kyB d e=false by unfold kyB;rw[decide_eq_true h1,decide_eq_false h2];rfl]at hsq
         (try (conv=>whnf));(repeat ((first|refine qT ?_|refine qF ?_|refine qO ?_|(with_reducible intro z hz);(first|(replace hz:=hz (by omega);subst hz)|subst hz));(try (conv=>whnf))))
         refine Idx.mk q (eiv e) _ rfl (by simp[he]) rfl ?_
         (try (conv=>whnf));(repeat ((first|refine qT ?_|refine qF ?_|refine qO ?_|(with_reducible intro z hz);(first|(replace hz:=hz (by omega);subst hz)|subst hz));(try (conv=>whnf))))
         refine Idx.mk k (eiv d) _ rfl (by simp[hd]) rfl ?_
         (try (conv=>whnf));(repeat ((first|refine qT ?_|refine qF ?_|refine qO ?_|(with_reducible intro z hz);(first|(replace hz:=hz (by omega);subst hz)|subst hz));(try (conv=>whnf))))
         refine Idx.mk q (eiv e) _ rfl (by simp[he]) rfl ?_
         (try (conv=>whnf));(repeat ((first|refine qT ?_|refine qF ?_|refine qO ?_|(with_reducible intro z hz);(first|(replace hz:=hz (by omega);subst hz)|subst hz));(try (conv=>whnf))))
         refine Idx.mk k (eiv d) _ rfl (by simp[hd]) rfl ?_
         (try (conv=>whnf));(repeat ((first|refine qT ?_|refine qF ?_|refine qO ?_|(with_reducible intro z hz);(first|(replace hz:=hz (by omega);subst hz)|subst hz));(try (conv=>whnf))))
         exact⟨q+1,by omega,by dsimp only;omega,by
          dsimp only[]
          rw[hsq]
          exact (qSL 0 rfl rfl)⟩
       ·rw[show kyB d e=false by unfold kyB;rw[decide_eq_false h1];rfl]at hsq
        (try (conv=>whnf));(repeat ((first|refine qT ?_|refine qF ?_|refine qO ?_|(with_reducible intro z hz);(first|(replace hz:=hz (by omega);subst hz)|subst hz));(try (conv=>whnf))))
        refine Idx.mk q (eiv e) _ rfl (by simp[he]) rfl ?_
        (try (conv=>whnf));(repeat ((first|refine qT ?_|refine qF ?_|refine qO ?_|(with_reducible intro z hz);(first|(replace hz:=hz (by omega);subst hz)|subst hz));(try (conv=>whnf))))
        refine Idx.mk k (eiv d) _ rfl (by simp[hd]) rfl ?_
        (try (conv=>whnf));(repeat ((first|refine qT ?_|refine qF ?_|refine qO ?_|(with_reducible intro z hz);(first|(replace hz:=hz (by omega);subst hz)|subst hz));(try (conv=>whnf))))
        exact⟨q+1,by omega,by dsimp only;omega,by
         dsimp only[]
         rw[hsq]
         exact (qSL 0 rfl rfl)⟩
     |inr hqg=>
      obtain rfl:q=G.length:=by omega
      rw[List.take_length]
      rw[←hst]
      (try (conv=>whnf));(repeat ((first|refine qT ?_|refine qF ?_|refine qO ?_|(with_reducible intro z hz);(first|(replace hz:=hz (by omega);subst hz)|subst hz));(try (conv=>whnf))))
      exact⟨i+1,by omega,by dsimp only;omega,(qSL 0 rfl rfl)⟩
    |inr hig=>
     obtain rfl:i=T.length:=by omega
     rw[List.take_length]
     generalize (T.any fun day=>(onG l day d.it.fr).any (kyB d))=V at *
     subst hwd
     cases V with
     |true=>
      (try (conv=>whnf));(repeat ((first|refine qT ?_|refine qF ?_|refine qO ?_|(with_reducible intro z hz);(first|(replace hz:=hz (by omega);subst hz)|subst hz));(try (conv=>whnf))))
      exact⟨k+1,by omega,by dsimp only;omega,(qSL 0 rfl rfl)⟩
     |false=>
      (try (conv=>whnf));(repeat ((first|refine qT ?_|refine qF ?_|refine qO ?_|(with_reducible intro z hz);(first|(replace hz:=hz (by omega);subst hz)|subst hz));(try (conv=>whnf))))
      exact⟨k+1,by omega,by dsimp only;omega,(qSL 0 rfl rfl)⟩
end F
end Go.Proofs.YtfjibfdelbodjaaGreat.Po
