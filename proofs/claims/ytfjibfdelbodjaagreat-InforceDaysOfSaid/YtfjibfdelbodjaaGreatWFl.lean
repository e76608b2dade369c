/-
  In force: the days of an amendment, by act and item; the law.
-/
import Derived.Test.YtfjibfdelbodjaaGreatWFk
import Derived.Test.YtfjibfdelbodjaaGreatGg
import Derived.Test.YtfjibfdelbodjaaGreatWDk
namespace Go.Proofs.YtfjibfdelbodjaaGreat.Po
open Go Go.Pv Go.RowKit
set_option linter.unusedSimpArgs false
open Lab Lcs Go.Proofs.YtfjibfdelbodjaaGreat Go.Proofs.YtfjibfdelbodjaaGreat.Pu
set_option maxRecDepth 10000
set_option maxHeartbeats 32000000
namespace F
def tY (act item:Int) (d:Ei):Bool:=decide (d.act=act)&&decide (d.item=item)
noncomputable def yV (A:List Ac) (D:List Ei) (act item:Int) (L:List Ei):Option (List Spans.Sp):=((amL L).filter (tY act item)).getLast?.map (cu A D)
def NK:Option (List Spans.Sp)→IV
 |none=>.nil
 |some R=>.sl 2 (R.map Pe.spv)
theorem L8 {A:List Ac} {D:List Ei} {act item:Int} {L:List Ei} {k:Nat} {d:Ei} (h:L[k]?=some d):yV A D act item (L.take (k+1))=if chB d.it.kind=true then (if tY act item d=true then some (cu A D d) else yV A D act item (L.take k)) else yV A D act item (L.take k):=by
 unfold yV
 rw[nR h]
 cases chB d.it.kind with
 |true=>
  rw[if_pos rfl,if_pos rfl,List.filter_append]
  cases hb:tY act item d<;>simp[List.filter_cons,hb]
 |false=>rfl
theorem Qv (act item:Int) (d:Ei) (R:List Spans.Sp) (o:Option (List Spans.Sp)):PCB Tryz.prog aM 35 [.imm (eiv d),.imm (.sl 2 (R.map Pe.spv)),.ptr 0 1 0,.ptr 1 1 0,.ptr 2 1 0] [.box 1 [.imm (.int .i64 act)],.box 1 [.imm (.int .i64 item)],.box 1 [.imm (NK o)]] [] [.box 1 [.imm (.int .i64 act)],.box 1 [.imm (.int .i64 item)],.box 1 [.imm (NK (if tY act item d=true then some R else o))]]:=by
 unfold tY
 rw[show eiv d=IV.agg _ from rfl]
 by_cases h1:d.act=act
 ·by_cases h2:d.item=item
  ·rw[decide_eq_true h1,decide_eq_true h2,Bool.and_self,if_pos rfl]
   refine PCB.ak (T:=cB) aN aU rfl mixed Tryz.func35 rfl rfl rfl (Nat.le_of_ble_eq_true rfl) rfl ?_;intro Γ C WK LP fin h0 hk0 hW hC hB hR hLP hfin
   have h03:Γ.n0=3:=h0
   (try (conv=>whnf));(repeat ((first|refine qT ?_|refine qF ?_|refine qO ?_|(with_reducible intro z hz);(first|(replace hz:=hz (by omega);subst hz)|subst hz));(try (conv=>whnf))))
   refine hfin _ ?_
   exact (qSL 3 rfl rfl)
  ·rw[decide_eq_false h2,Bool.and_false,if_neg (by simp)]
   refine PCB.ak (T:=cB) aN aU rfl mixed Tryz.func35 rfl rfl rfl (Nat.le_of_ble_eq_true rfl) rfl ?_;intro Γ C WK LP fin h0 hk0 hW hC hB hR hLP hfin
   have h03:Γ.n0=3:=h0
   (try (conv=>whnf));(repeat ((first|refine qT ?_|refine qF ?_|refine qO ?_|(with_reducible intro z hz);(first|(replace hz:=hz (by omega);subst hz)|subst hz));(try (conv=>whnf))))
   refine hfin _ ?_
   exact (qSL 3 rfl rfl)
 ·rw[decide_eq_false h1,Bool.false_and,if_neg (by simp)]
  refine PCB.ak (T:=cB) aN aU rfl mixed Tryz.func35 rfl rfl rfl (Nat.le_of_ble_eq_true rfl) rfl ?_;intro Γ C WK LP fin h0 hk0 hW hC hB hR hLP hfin
  have h03:Γ.n0=3:=h0
  (try (conv=>whnf));(repeat ((first|refine qT ?_|refine qF ?_|refine qO ?_|(with_reducible intro z hz);(first|(replace hz:=hz (by omega);subst hz)|subst hz));(try (conv=>whnf))))
  refine hfin _ ?_
  exact (qSL 3 rfl rfl)
theorem Gs {l:List Gz} {m:Nat} (hm:m≤300) (h30:bH l m) (act item:Int):PCB Tryz.prog aM 34 [.imm (.sl 4 (l.map gzv)),.clo 35 [.ptr 0 1 0,.ptr 1 1 0,.ptr 2 1 0]] [.box 1 [.imm (.int .i64 act)],.box 1 [.imm (.int .i64 item)],.box 1 [.imm .nil],.dead 1] [] [.box 1 [.imm (.int .i64 act)],.box 1 [.imm (.int .i64 item)],.box 1 [.imm (NK (yV (bn (allA l)) (aP l) act item (aP l)))],.dead 1]:=by
 have hIt:=h30.items (by omega)
 have hAc:=h30.KP
 have hDl:=h30.dI
 have hAl:(bn (allA l)).length≤1000:=rE h30
 have hnd:=lW l
 generalize bn (allA l)=A at *
 generalize aP l=D at *
 have hRu:=oK A D hAl (by omega)
 have hDy:∀d,_:=fun d=>oJ A D d hnd (by omega)
 have hmd:(D.map eiv).length=D.length:=List.length_map _
 refine PCB.ak (T:=(tbF fun r=>Nat.beq r 1)) aN aU rfl mixed Tryz.func34 rfl rfl rfl (Nat.le_of_ble_eq_true rfl) rfl ?_;intro Γ C WK LP fin h0 hk0 hW hC hB hR hLP hfin
 have h04:Γ.n0=4:=h0
 (try (conv=>whnf));(repeat ((first|refine qT ?_|refine qF ?_|refine qO ?_|(with_reducible intro z hz);(first|(replace hz:=hz (by omega);subst hz)|subst hz)|(refine ah.mk _ (hC _ _ _ (PCw.of hIt)) (fun js hjs=>?_);subst hjs));(try (conv=>whnf))))
 refine hW _ _ _ aA.spare ?_
 (try (conv=>whnf));(repeat ((first|refine qT ?_|refine qF ?_|refine qO ?_|(with_reducible intro z hz);(first|(replace hz:=hz (by omega);subst hz)|subst hz)|(refine ah.mk _ (hC _ _ _ (PCw.of hAc)) (fun js hjs=>?_);subst hjs));(try (conv=>whnf))))
 refine bG.mk ([.agg [.row 0 2,.imm (.sl 28 ((evs D).map eiv)),.row 1 2]]) ([.map (.int .i64) 2 (mkL kI stI (stM [] A)),.map (.int .i64) 2 (mkL kI fK (orM [] D))]) (hB _ _ _ _ _ (hRu)) ?_
 (try (conv=>whnf));(repeat ((first|refine qT ?_|refine qF ?_|refine qO ?_|(with_reducible intro z hz);(first|(replace hz:=hz (by omega);subst hz)|subst hz));(try (conv=>whnf))))
 refine hLP _ _ _ Nat (fun k=>⟨[(1,.clo 35 [.ptr 0 1 0,.ptr 1 1 0,.ptr 2 1 0]),(5,.ptr 8 1 0),(14,.imm (.sl 28 (D.map eiv))),(15,.imm (.int .i64 (D.length:Nat))),(16,.imm (.int .i64 (k:Nat)))],[.box 1 [.imm (.int .i64 act)],.box 1 [.imm (.int .i64 item)],.box 1 [.imm (NK (yV A D act item (D.take k)))],.dead 1,.dead 0,.map (.int .i64) 78 (mkL kI fK (orM [] D)),.dead 0,.map (.int .i64) 1 (mkL kI stI (stM [] A)),.box 1 [.row 7 1,.imm (.sl 28 ((evs D).map eiv)),.row 5 78]]⟩) (fun k=>k≤D.length) (fun k=>D.length - k) 0 (Nat.zero_le _) ((qSL 9 rfl rfl (hE:=by (repeat ((conv=>whnf);first|exact trivial|refine And.intro (by first|exact aj.any|exact aj.eq (by with_reducible rfl) rfl|exact aj.eq (congrArg (fun z=>PV.imm (IV.int IntKind.i64 z)) (by first|omega|(simp[hmd];done)|(simp[hmd];omega))) rfl|exact aj.eq (by first|(simp[hmd];done)|fail) rfl|exact aj.eq rfl rfl|exact aj.le rfl (ILe.nil _)) ?_))))) ?_
 intro k hk
 have hho:=Nat.lt_or_ge k D.length
 cases hho with
 |inl hlt=>
  obtain⟨d,hd⟩:∃d,D[k]?=some d:=⟨D[k],List.getElem?_eq_getElem hlt⟩
  have hst:=L8 (A:=A) (D:=D) (act:=act) (item:=item) hd
  generalize yV A D act item (D.take k)=o at *
  have hAm:=oN d.it.kind
  have hDd:=hDy d
  generalize cu A D d=R at *
  have hOd:=Qv act item d R o
  rw[show eiv d=IV.agg _ from rfl]at hDd hOd
  cases hc:chB d.it.kind with
  |true=>
   rw[hc]at hAm
   rw[hc,if_pos rfl]at hst
   (try (conv=>whnf));(repeat ((first|refine qT ?_|refine qF ?_|refine qO ?_|(with_reducible intro z hz);(first|(replace hz:=hz (by omega);subst hz)|subst hz));(try (conv=>whnf))))
   refine Idx.mk k (eiv d) _ rfl (by simp[hd]) rfl ?_
   (try (conv=>whnf));(repeat ((first|refine qT ?_|refine qF ?_|refine qO ?_|(with_reducible intro z hz);(first|(replace hz:=hz (by omega);subst hz)|subst hz)|(refine ah.mk _ (hC _ _ _ (PCw.of hAm)) (fun js hjs=>?_);subst hjs));(try (conv=>whnf))))
   refine bG.mk ([.imm (.sl 2 (R.map Pe.spv))]) (mpC 1 (stM [] A) (orM [] D)) (hB _ _ _ _ _ (hDd)) ?_
   (try (conv=>whnf));(repeat ((first|refine qT ?_|refine qF ?_|refine qO ?_|(with_reducible intro z hz);(first|(replace hz:=hz (by omega);subst hz)|subst hz));(try (conv=>whnf))))
   refine bG.mk ([]) ([.box 1 [.imm (.int .i64 act)],.box 1 [.imm (.int .i64 item)],.box 1 [.imm (NK (if tY act item d=true then some R else o))]]) (hB _ _ _ _ _ (hOd)) ?_
   (try (conv=>whnf));(repeat ((first|refine qT ?_|refine qF ?_|refine qO ?_|(with_reducible intro z hz);(first|(replace hz:=hz (by omega);subst hz)|subst hz));(try (conv=>whnf))))
   exact⟨k+1,by omega,by dsimp only;omega,by
    dsimp only[]
    rw[hst]
    exact (qSL 9 rfl rfl)⟩
  |false=>
   rw[hc]at hAm
   rw[hc,if_neg (by simp)]at hst
   (try (conv=>whnf));(repeat ((first|refine qT ?_|refine qF ?_|refine qO ?_|(with_reducible intro z hz);(first|(replace hz:=hz (by omega);subst hz)|subst hz));(try (conv=>whnf))))
   refine Idx.mk k (eiv d) _ rfl (by simp[hd]) rfl ?_
   (try (conv=>whnf));(repeat ((first|refine qT ?_|refine qF ?_|refine qO ?_|(with_reducible intro z hz);(first|(replace hz:=hz (by omega);subst hz)|subst hz)|(refine ah.mk _ (hC _ _ _ (PCw.of hAm)) (fun js hjs=>?_);subst hjs));(try (conv=>whnf))))
   exact⟨k+1,by omega,by dsimp only;omega,by
    dsimp only[]
    rw[hst]
    exact (qSL 9 rfl rfl)⟩
 |inr hge=>
  obtain rfl:k=D.length:=by omega
  rw[List.take_length]
  (try (conv=>whnf));(repeat ((first|refine qT ?_|refine qF ?_|refine qO ?_|(with_reducible intro z hz);(first|(replace hz:=hz (by omega);subst hz)|subst hz));(try (conv=>whnf))))
  refine hfin _ ?_
  exact (qSL 4 rfl rfl)
noncomputable def kT (l:List Gz) (act item:Int):List Spans.Sp:=match gV (aP l) act item with
 |some d=>pU l d
 |none=>[]
theorem Rb {l:List Gz} {m:Nat} (h:bH l m) (act item:Int):(yV (bn (allA l)) (aP l) act item (aP l)).getD []=kT l act item:=by
 unfold yV kT
 have hall:∀x∈(amL (aP l)).filter (tY act item),x∈aP l∧chB x.it.kind=true∧x.act=act∧x.item=item:=fun x hx=>by
  obtain⟨h1,h2⟩:=List.mem_filter.1 hx
  obtain⟨h3,h4⟩:=List.mem_filter.1 h1
  unfold tY at h2
  rw[Bool.and_eq_true]at h2
  exact⟨h3,h4,of_decide_eq_true h2.1,of_decide_eq_true h2.2⟩
 cases hf:gV (aP l) act item with
 |none=>
  have he:(amL (aP l)).filter (tY act item)=[]:=by
   rw[List.eq_nil_iff_forall_not_mem]
   intro x hx
   obtain⟨h1,_,h3,h4⟩:=hall x hx
   have:=h.finds h1
   rw[h3,h4,hf]at this
   cases this
  rw[he]
  rfl
 |some d=>
  have hd:d∈aP l∧d.act=act∧d.item=item:=by
   have h2:=List.find?_some hf
   rw[Bool.and_eq_true]at h2
   exact⟨List.mem_of_find?_eq_some hf,of_decide_eq_true h2.1,of_decide_eq_true h2.2⟩
  have hx:∀x∈(amL (aP l)).filter (tY act item),x=d:=fun x hx=>by
   obtain⟨h1,_,h3,h4⟩:=hall x hx
   have:=h.finds h1
   rw[h3,h4,hf]at this
   exact (Option.some.inj this).symm
  dsimp only
  cases hl:((amL (aP l)).filter (tY act item)).getLast? with
  |some x=>
   rw[hx x (List.mem_of_getLast? hl)]
   rfl
  |none=>
   have hn:=List.getLast?_eq_none_iff.1 hl
   have hc:chB d.it.kind=false:=by
    cases hc:chB d.it.kind with
    |false=>rfl
    |true=>
     have:d∈(amL (aP l)).filter (tY act item):=List.mem_filter.2 ⟨List.mem_filter.2 ⟨hd.1,hc⟩,by unfold tY;rw[decide_eq_true hd.2.1,decide_eq_true hd.2.2];rfl⟩
     rw[hn]at this
     cases this
   show []=pU l d
   unfold pU cu Pe.bB
   unfold chB at hc
   exact (if_neg (of_decide_eq_false hc)).symm
theorem O5 {l:List Gz} {m:Nat} (hm:m≤300) (h:bH l m) (act item:Int):PC Tryz.prog aM 12 [.int .i64 act,.int .i64 item,.sl 4 (l.map gzv)] [.sl 2 ((kT l act item).map Pe.spv)]:=by
 have hV:=Gs hm h act item
 rw[←Rb h act item]
 cases ho:yV (bn (allA l)) (aP l) act item (aP l) with
 |none=>
  rw[ho]at hV
  refine PC.ak (T:=cB) aN aU rfl mixed Tryz.func12 rfl rfl (Nat.le_of_ble_eq_true rfl) ?_;intro Γ C WK LP fin h0 hW hC hB hR hLP hfin
  have h00:Γ.n0=0:=h0
  (try (conv=>whnf));(repeat ((first|refine qT ?_|refine qF ?_|refine qO ?_|(with_reducible intro z hz);(first|(replace hz:=hz (by omega);subst hz)|subst hz));(try (conv=>whnf))))
  refine bG.mk ([]) ([.box 1 [.imm (.int .i64 act)],.box 1 [.imm (.int .i64 item)],.box 1 [.imm .nil],.dead 1]) (hB _ _ _ _ _ (hV)) ?_
  (try (conv=>whnf));(repeat ((first|refine qT ?_|refine qF ?_|refine qO ?_|(with_reducible intro z hz);(first|(replace hz:=hz (by omega);subst hz)|subst hz));(try (conv=>whnf))))
  exact hfin _ (.cons (ILe.nil _) (.refl _))
 |some R=>
  rw[ho]at hV
  refine PC.ak (T:=cB) aN aU rfl mixed Tryz.func12 rfl rfl (Nat.le_of_ble_eq_true rfl) ?_;intro Γ C WK LP fin h0 hW hC hB hR hLP hfin
  have h00:Γ.n0=0:=h0
  (try (conv=>whnf));(repeat ((first|refine qT ?_|refine qF ?_|refine qO ?_|(with_reducible intro z hz);(first|(replace hz:=hz (by omega);subst hz)|subst hz));(try (conv=>whnf))))
  refine bG.mk ([]) ([.box 1 [.imm (.int .i64 act)],.box 1 [.imm (.int .i64 item)],.box 1 [.imm (.sl 2 (R.map Pe.spv))],.dead 1]) (hB _ _ _ _ _ (hV)) ?_
  (try (conv=>whnf));(repeat ((first|refine qT ?_|refine qF ?_|refine qO ?_|(with_reducible intro z hz);(first|(replace hz:=hz (by omega);subst hz)|subst hz));(try (conv=>whnf))))
  exact hfin _ (ay.refl _)
theorem sP {l:List Gz} {m:Nat} (hm:m≤300) (h:bH l m) (act item:Int):PC Tryz.prog aM 13 [.int .i64 act,.int .i64 item,.sl 4 (l.map gzv)] [.sl 2 ((kT l act item).map Pe.spv)]:=by
 have hFd:=h.RF (by omega) act item
 unfold kT
 cases hf:gV (aP l) act item with
 |none=>
  rw[hf]at hFd
  unfold RV QV at hFd
  refine PC.ak (T:=cB) aN aU rfl mixed Tryz.func13 rfl rfl (Nat.le_of_ble_eq_true rfl) ?_;intro Γ C WK LP fin h0 hW hC hB hR hLP hfin
  have h00:Γ.n0=0:=h0
  (try (conv=>whnf));(repeat ((first|refine qT ?_|refine qF ?_|refine qO ?_|(with_reducible intro z hz);(first|(replace hz:=hz (by omega);subst hz)|subst hz)|(refine ah.mk _ (hC _ _ _ (PCw.of hFd)) (fun js hjs=>?_);subst hjs));(try (conv=>whnf))))
  first|exact hfin _ (ay.refl _)|(refine bK.mk [] rfl ?_;exact hfin _ (ay.refl _))
 |some d=>
  have hOf:=Kh hm h d
  rw[hf,show RV (some d)=IV.agg _ from rfl]at hFd
  rw[show eiv d=IV.agg _ from rfl]at hOf
  dsimp only
  generalize pU l d=R at *
  refine PC.ak (T:=cB) aN aU rfl mixed Tryz.func13 rfl rfl (Nat.le_of_ble_eq_true rfl) ?_;intro Γ C WK LP fin h0 hW hC hB hR hLP hfin
  have h00:Γ.n0=0:=h0
  (try (conv=>whnf));(repeat ((first|refine qT ?_|refine qF ?_|refine qO ?_|(with_reducible intro z hz);(first|(replace hz:=hz (by omega);subst hz)|subst hz)|(refine ah.mk _ (hC _ _ _ (PCw.of hFd)) (fun js hjs=>?_);subst hjs)|(refine ah.mk _ (hC _ _ _ (PCw.of hOf)) (fun js hjs=>?_);subst hjs));(try (conv=>whnf))))
  exact hfin _ (ay.refl _)
theorem Hy {l:List Gz} {m:Nat} (h:bH l m) (act item:Int):(kT l act item).length≤1+m:=by
 unfold kT
 split
 ·have:=lg (bn (allA l)) (aP l) ‹Ei›
  have:=h.dI
  unfold pU
  omega
 ·simp
theorem RS (l:List Gz) (hF:Ii l) (act item:Int):PC Tryz.prog aM 3 [.sl 4 (l.map gzv),.int .i64 act,.int .i64 item] [.bool true]:=by
 have hA:=qh
 have hFw:=CQ l hF
 cases hb:xR l 30 with
 |false=>
  rw[hb]at hFw
  refine PC.ak (T:=cB) aN aU rfl mixed Tryz.func3 rfl rfl (Nat.le_of_ble_eq_true rfl) ?_;intro Γ C WK LP fin h0 hW hC hB hR hLP hfin
  (try (conv=>whnf));(repeat ((first|refine qT ?_|refine qF ?_|refine qO ?_|(with_reducible intro z hz);(first|(replace hz:=hz (by omega);subst hz)|subst hz)|(refine ah.mk _ (hC _ _ _ (PCw.of hA)) (fun js hjs=>?_);subst hjs)|(refine ah.mk _ (hC _ _ _ (PCw.of hFw)) (fun js hjs=>?_);subst hjs));(try (conv=>whnf))))
  exact hfin _ (ay.refl _)
 |true=>
  rw[hb]at hFw
  have h30:=J5 (m:=30) (by omega) hF.2 hb
  have hDf:=O5 (by omega) h30 act item
  have hRs:=sP (by omega) h30 act item
  have hln:=Hy h30 act item
  have hS:=LB (kT l act item) (kT l act item) (by omega) (by omega)
  rw[decide_eq_true rfl]at hS
  generalize kT l act item=R at *
  refine PC.ak (T:=cB) aN aU rfl mixed Tryz.func3 rfl rfl (Nat.le_of_ble_eq_true rfl) ?_;intro Γ C WK LP fin h0 hW hC hB hR hLP hfin
  (try (conv=>whnf));(repeat ((first|refine qT ?_|refine qF ?_|refine qO ?_|(with_reducible intro z hz);(first|(replace hz:=hz (by omega);subst hz)|subst hz)|(refine ah.mk _ (hC _ _ _ (PCw.of hA)) (fun js hjs=>?_);subst hjs)|(refine ah.mk _ (hC _ _ _ (PCw.of hFw)) (fun js hjs=>?_);subst hjs)|(refine ah.mk _ (hC _ _ _ (PCw.of hDf)) (fun js hjs=>?_);subst hjs)|(refine ah.mk _ (hC _ _ _ (PCw.of hRs)) (fun js hjs=>?_);subst hjs)|(refine ah.mk _ (hC _ _ _ (PCw.of hS)) (fun js hjs=>?_);subst hjs));(try (conv=>whnf))))
  exact hfin _ (ay.refl _)
end F
end Go.Proofs.YtfjibfdelbodjaaGreat.Po
