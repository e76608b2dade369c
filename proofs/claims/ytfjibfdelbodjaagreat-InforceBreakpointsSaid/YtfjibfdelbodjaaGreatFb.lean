/-
  In force: the days of an amendment, by the program and by the reference. In force: the amendments, one after another; On.
-/
import Derived.Test.YtfjibfdelbodjaaGreatFa
import Derived.Test.YtfjibfdelbodjaaGreatWDk
import Derived.Test.YtfjibfdelbodjaaGreatWAm
namespace Go.Proofs.YtfjibfdelbodjaaGreat.Po
open Go Go.Pv Go.RowKit
set_option linter.unusedSimpArgs false
open Lab Lcs Go.Proofs.YtfjibfdelbodjaaGreat Go.Proofs.YtfjibfdelbodjaaGreat.Pu
set_option maxRecDepth 10000
set_option maxHeartbeats 32000000
namespace F
theorem Sy (s:Pe.St) (d:Ei) (L:List Ei) (hl:L.length≤1000):PC Tryz.prog aM 84 [Pe.stv s,eiv d,.sl 28 (L.map eiv)] [.sl 2 ((Pe.bC s (enP d) (L.map enP)).map Pe.spv)]:=by
 have h:=Pe.H9 s (enP d) (L.map enP) (by rw[List.length_map];exact hl)
 rw[←NY]at h
 exact h
theorem Sw (s:Pe.St) (d:Ei) (L:List Ei) (hl:L.length≤1000):PC Tryz.prog aM 63 [Pe.stv s,eiv d,.sl 28 (L.map eiv)] [.sl 2 ((Pe.bC s (enP d) (L.map enP)).map Pe.spv)]:=by
 have h:=Pe.KO s (enP d) (L.map enP) (by rw[List.length_map];exact hl)
 rw[←NY]at h
 exact h
abbrev mpB (g:Nat) (S:AcM) (M:OrM):List Blk:=[.map (.int .i64) g (mkL kI stI S),.map (.int .i64) g (mkL kI gL M)]
abbrev mpC (g:Nat) (S:AcM) (M:OrM):List CBk:=[.map (.int .i64) g (mkL kI stI S),.map (.int .i64) g (mkL kI gL M)]
theorem QY (m:AcM) (n:Int):fB (mkL kI stI m) (.int .i64 n)=(aP m n).map stI:=mX nu n m
theorem NC (m:OrM) (n:Int):fB (mkL kI gL m) (.int .i64 n)=(aP m n).map gL:=mX nu n m
theorem SI (o:Option Ac):Pe.stv (stO o)=(o.map stI).getD (.agg [.int .i64 0,.int .i64 0,.str ⟨#[]⟩]):=by cases o<;>rfl
theorem MQ (S:AcM) (M:OrM) (E:List Ei) (d:Ei) (hE:E.length≤400) (hM:(getD' M d.act).length≤400):PCB Tryz.prog aM 62 [.agg [.row 0 1,.imm (.sl 28 (E.map eiv)),.row 1 1],.imm (eiv d)] (mpB 1 S M) [.imm (.sl 2 ((Pe.bC (stO (aP S d.act)) (enP d) ((E++getD' M d.act).map enP)).map Pe.spv))] (mpB 1 S M):=by
 have hls:=QY S d.act
 have hlr:=NC M d.act
 have hsv:(((aP S d.act).map stI).getD (.agg [.int .i64 0,.int .i64 0,.str ⟨#[]⟩]):IV)=.agg [.int .i64 (stO (aP S d.act)).k,.int .i64 (stO (aP S d.act)).d,.str (stO (aP S d.act)).e]:=(SI (aP S d.act)).symm
 have hI:=Sy (stO (aP S d.act)) d (E++getD' M d.act) (by rw[List.length_append];omega)
 unfold Pe.stv at hI
 have hC:∀v,v=(((aP M d.act).map gL).getD .nil)→PCR Tryz.prog aM 85 [.sl 1 [.sl 28 (E.map eiv),v]] 47 28 ((E++getD' M d.act).map eiv):=by
  intro v hv
  have h:=Gq [.sl 28 (E.map eiv),v] [E.map eiv,(getD' M d.act).map eiv] rfl (fun k x hx=>by
   match k with
   |0=>injection hx with hx;subst hx;exact Or.inl rfl
   |1=>
    injection hx with hx;subst hx;subst hv
    unfold getD'
    cases aP M d.act with
    |none=>exact Or.inr ⟨rfl,rfl⟩
    |some r=>exact Or.inl rfl
   |_+2=>simp at hx) (by simp) (by unfold iR;simp;omega)
  simpa using h
 have hC2:=hC _ rfl
 clear hC
 have hEl:(((E++getD' M d.act).map eiv).map PV.imm).length=(E++getD' M d.act).length:=by simp
 have hEm:(E++getD' M d.act).length≤800:=by rw[List.length_append];omega
 generalize stO (aP S d.act)=s0 at *
 generalize Pe.bC s0 (enP d) ((E++getD' M d.act).map enP)=R at *
 generalize E++getD' M d.act=EL at *
 rw[show eiv d=IV.agg _ from rfl]at hI ⊢
 cases hlm:aP M d.act with
 |none=>
  rw[hlm]at hC2 hlr
  refine PCB.aj (T:=dZ) aS bB rfl mixed Tryz.func62 rfl rfl rfl (Nat.le_of_ble_eq_true rfl) rfl ?_;intro Γ C WK LP fin h0 hk0 hW hC hB hR hLP hfin
  have h02:Γ.n0=2:=h0
  (try (conv=>whnf));(repeat ((first|refine qT ?_|refine qF ?_|refine qO ?_|(with_reducible intro z hz);(first|(replace hz:=hz (by omega);subst hz)|subst hz));(try (conv=>whnf))))
  refine gD.mk (.agg [.int .i64 s0.k,.int .i64 s0.d,.str s0.e]) (aP S d.act).isSome (by rw[hls];exact hsv) (by rw[hls];simp) ?_
  (try (conv=>whnf));(repeat ((first|refine qT ?_|refine qF ?_|refine qO ?_|(with_reducible intro z hz);(first|(replace hz:=hz (by omega);subst hz)|subst hz));(try (conv=>whnf))))
  refine gD.mk .nil false (by rw[hlr];rfl) (by rw[hlr];rfl) ?_
  (try (conv=>whnf));(repeat ((first|refine qT ?_|refine qF ?_|refine qO ?_|(with_reducible intro z hz);(first|(replace hz:=hz (by omega);subst hz)|subst hz));(try (conv=>whnf))))
  refine bN.mk [.sl 28 (E.map eiv),.nil] rfl ?_
  (try (conv=>whnf));(repeat ((first|refine qT ?_|refine qF ?_|refine qO ?_|(with_reducible intro z hz);(first|(replace hz:=hz (by omega);subst hz)|subst hz));(try (conv=>whnf))))
  refine ah.row _ _ _ (hR _ _ _ _ _ (uM.of (hC2))) (fun js hjs=>?_);subst hjs
  (try (conv=>whnf));(repeat ((first|refine qT ?_|refine qF ?_|refine qO ?_|(with_reducible intro z hz);(first|(replace hz:=hz (by omega);subst hz)|subst hz));(try (conv=>whnf))))
  refine bN.mk (EL.map eiv) rfl ?_
  (try (conv=>whnf));(repeat ((first|refine qT ?_|refine qF ?_|refine qO ?_|(with_reducible intro z hz);(first|(replace hz:=hz (by omega);subst hz)|subst hz)|(refine ah.mk _ (hC _ _ _ (PCw.of hI)) (fun js hjs=>?_);subst hjs));(try (conv=>whnf))))
  exact hfin _ (qSL 2 rfl rfl)
 |some r=>
  rw[hlm]at hC2 hlr
  refine PCB.aj (T:=dZ) aS bB rfl mixed Tryz.func62 rfl rfl rfl (Nat.le_of_ble_eq_true rfl) rfl ?_;intro Γ C WK LP fin h0 hk0 hW hC hB hR hLP hfin
  have h02:Γ.n0=2:=h0
  (try (conv=>whnf));(repeat ((first|refine qT ?_|refine qF ?_|refine qO ?_|(with_reducible intro z hz);(first|(replace hz:=hz (by omega);subst hz)|subst hz));(try (conv=>whnf))))
  refine gD.mk (.agg [.int .i64 s0.k,.int .i64 s0.d,.str s0.e]) (aP S d.act).isSome (by rw[hls];exact hsv) (by rw[hls];simp) ?_
  (try (conv=>whnf));(repeat ((first|refine qT ?_|refine qF ?_|refine qO ?_|(with_reducible intro z hz);(first|(replace hz:=hz (by omega);subst hz)|subst hz));(try (conv=>whnf))))
  refine gD.mk (.sl 28 (r.map eiv)) true (by rw[hlr];rfl) (by rw[hlr];rfl) ?_
  (try (conv=>whnf));(repeat ((first|refine qT ?_|refine qF ?_|refine qO ?_|(with_reducible intro z hz);(first|(replace hz:=hz (by omega);subst hz)|subst hz));(try (conv=>whnf))))
  refine bN.mk [.sl 28 (E.map eiv),(.sl 28 (r.map eiv))] rfl ?_
  (try (conv=>whnf));(repeat ((first|refine qT ?_|refine qF ?_|refine qO ?_|(with_reducible intro z hz);(first|(replace hz:=hz (by omega);subst hz)|subst hz));(try (conv=>whnf))))
  refine ah.row _ _ _ (hR _ _ _ _ _ (uM.of (hC2))) (fun js hjs=>?_);subst hjs
  (try (conv=>whnf));(repeat ((first|refine qT ?_|refine qF ?_|refine qO ?_|(with_reducible intro z hz);(first|(replace hz:=hz (by omega);subst hz)|subst hz));(try (conv=>whnf))))
  refine bN.mk (EL.map eiv) rfl ?_
  (try (conv=>whnf));(repeat ((first|refine qT ?_|refine qF ?_|refine qO ?_|(with_reducible intro z hz);(first|(replace hz:=hz (by omega);subst hz)|subst hz)|(refine ah.mk _ (hC _ _ _ (PCw.of hI)) (fun js hjs=>?_);subst hjs));(try (conv=>whnf))))
  exact hfin _ (qSL 2 rfl rfl)
end F
end Go.Proofs.YtfjibfdelbodjaaGreat.Po
namespace Go.Proofs.YtfjibfdelbodjaaGreat.Po
open Go Go.Pv Go.RowKit
set_option linter.unusedSimpArgs false
open Lab Lcs Go.Proofs.YtfjibfdelbodjaaGreat Go.Proofs.YtfjibfdelbodjaaGreat.Pu
set_option maxRecDepth 10000
set_option maxHeartbeats 32000000
namespace F
def amL (D:List Ei):List Ei:=D.filter fun d=>chB d.it.kind
theorem xJ {D:List Ei} {k:Nat} {d:Ei} (h:D[k]?=some d):amL (D.take (k+1))=if chB d.it.kind=true then amL (D.take k)++[d] else amL (D.take k):=by
 unfold amL
 rw[take_at h,List.filter_append]
 cases hk:chB d.it.kind with
 |true=>simp[List.filter_cons,hk]
 |false=>simp[List.filter_cons,hk]
theorem xV (l:List Gz):((bn (allA l)).map Ac.num).Nodup:=by
 have hp:((lG l).acts.map Prod.snd).Perm (bn (allA l)):=by
  rw[nH]
  have:=eB (allA l) (allA l).length (Nat.le_refl _)
  unfold rgK at this
  rw[List.take_length]at this
  exact this.symm
 have hg:jE (fun _=>True) (lG l):=nT (fun _ _ _ _=>trivial)
 refine ((hp.map Ac.num).nodup_iff).1 ?_
 have:((lG l).acts.map Prod.snd).map Ac.num=(lG l).acts.map Prod.fst:=by
  rw[List.map_map]
  exact List.map_congr_left fun p h=>(hg.key p h).symm
 rw[this]
 exact hg.nodup
theorem Df {l:List Gz} {m:Nat} (h:bO l m):(bn (allA l)).length≤1000:=by
 have h2:=lg (allA l) (allA l).length
 have h3:=mO l (fun g hg=>by have:=h.acts g hg;omega)
 have h4:=h.len
 rw[show bX (allA l) (allA l).length=bn (allA l) from rfl]at h2
 have h5:(allA l).length≤8*l.length:=by
  have:∀(l:List Gz),(∀g∈l,g.acts.length≤8)→(allA l).length≤8*l.length:=by
   intro l
   induction l with
   |nil=>intro _;exact Nat.le_refl _
   |cons g l ih=>
    intro hg
    have h1:=hg g List.mem_cons_self
    have h2:=ih fun x hx=>hg x (List.mem_cons_of_mem _ hx)
    show (g.acts++allA l).length≤_
    rw[List.length_append,List.length_cons]
    omega
  exact this l h.acts
 omega
theorem Mq (A:List Ac) (D:List Ei) (d:Ei) (hA:(A.map Ac.num).Nodup):Pe.bC (stO (aP (stM [] A) d.act)) (enP d) ((evs D++getD' (orM [] D) d.act).map enP)=cK A D d:=by
 rw[DC d.act A [] hA,qA]
 show Pe.bC (stO ((A.find? fun a=>decide (a.num=d.act)).or none)) (enP d) ((evs D++([]++Di d.act D)).map enP)=_
 rw[Option.or_none,List.nil_append,KC]
 rfl
theorem ze (A:List Ac) (D:List Ei) (d:Ei) (hA:(A.map Ac.num).Nodup) (hD:D.length≤400):PCB Tryz.prog aM 62 [.agg [.row 0 1,.imm (.sl 28 ((evs D).map eiv)),.row 1 1],.imm (eiv d)] (mpB 1 (stM [] A) (orM [] D)) [.imm (.sl 2 ((cK A D d).map Pe.spv))] (mpB 1 (stM [] A) (orM [] D)):=by
 have h:=MQ (stM [] A) (orM [] D) (evs D) d (Nat.le_trans (List.length_filter_le _ _) hD) (by
  rw[qA]
  exact Nat.le_trans (List.length_filter_le _ _) hD)
 rw[Mq A D d hA]at h
 exact h
noncomputable def onB (A:List Ac) (D:List Ei) (p:Str) (day:Int) (d:Ei):Bool:=(decide (d.it.fr=⟨#[]⟩)||decide (d.it.fr=p))&&Rm.eU (cK A D d) day
noncomputable def onL (A:List Ac) (D:List Ei) (p:Str) (day:Int) (L:List Ei):List Ei:=(amL L).filter (onB A D p day)
abbrev rwE (g:Nat) (l:List Ei):Blk:=.row 47 28 g ((l.map eiv).map .imm)
abbrev SK (g:Nat) (l:List Ei):CBk:=.row 47 28 g (l.map eiv)
theorem Rq (L:List Spans.Sp) (d:Int) (hl:L.length≤1000000000):PC Tryz.prog aM 39 [.sl 2 (L.map Pe.spv),.int .i64 d] [.bool (Rm.eU L d)]:=Pe.DR L d hl
theorem Pk (A:List Ac) (D:List Ei) (p:Str) (day:Int) (d:Ei) (es:List Ei) (hl:(cK A D d).length≤1000) (he:es.length≤1000):PCB Tryz.prog aM 38 [.imm (eiv d),.imm (.sl 2 ((cK A D d).map Pe.spv)),.ptr 0 1 0,.ptr 1 1 0,.ptr 2 1 0] [.box 1 [.imm (.str p)],.box 1 [.imm (.int .i64 day)],.box 1 [.row 3 1],rwE 1 es] [] [.box 1 [.imm (.str p)],.box 1 [.imm (.int .i64 day)],.box 1 [.row 3 2],rwE 2 (if onB A D p day d=true then es++[d] else es)]:=by
 have hCn:=Rq (cK A D d) day (by omega)
 unfold onB
 generalize cK A D d=R at *
 have hel:((es.map eiv).map PV.imm).length=es.length:=by simp
 generalize Rm.eU R day=cb at *
 rw[show eiv d=IV.agg _ from rfl]
 by_cases h1:d.it.fr=⟨#[]⟩
 ·rw[decide_eq_true h1,Bool.true_or,Bool.true_and]
  cases cb with
  |true=>
   rw[if_pos rfl]
   refine PCB.aj (T:=dZ) aS bB rfl mixed Tryz.func38 rfl rfl rfl (Nat.le_of_ble_eq_true rfl) rfl ?_;intro Γ C WK LP fin h0 hk0 hW hC hB hR hLP hfin
   have h04:Γ.n0=4:=h0
   (try (conv=>whnf));(repeat ((first|refine qT ?_|refine qF ?_|refine qO ?_|(with_reducible intro z hz);(first|(replace hz:=hz (by omega);subst hz)|subst hz)|(refine ah.mk _ (hC _ _ _ (PCw.of hCn)) (fun js hjs=>?_);subst hjs));(try (conv=>whnf))))
   refine hfin _ ?_;exact ((aC.row 3 ((((es++[d]).map eiv).map .imm)) rfl (by simp[eiv])).trans (qSL 4 rfl rfl))
  |false=>
   rw[if_neg (by simp)]
   refine PCB.aj (T:=dZ) aS bB rfl mixed Tryz.func38 rfl rfl rfl (Nat.le_of_ble_eq_true rfl) rfl ?_;intro Γ C WK LP fin h0 hk0 hW hC hB hR hLP hfin
   have h04:Γ.n0=4:=h0
   (try (conv=>whnf));(repeat ((first|refine qT ?_|refine qF ?_|refine qO ?_|(with_reducible intro z hz);(first|(replace hz:=hz (by omega);subst hz)|subst hz)|(refine ah.mk _ (hC _ _ _ (PCw.of hCn)) (fun js hjs=>?_);subst hjs));(try (conv=>whnf))))
   refine hfin _ ?_;exact ((aC.renew 3 2 rfl (by first|omega|(intro _;rw[hk0 _ _ rfl];exact Nat.le_of_ble_eq_true rfl)) (by repeat (first|exact trivial|refine And.intro (bA _ _ _ _) ?_|refine And.intro rfl ?_))).trans (qSL 4 rfl rfl))
 ·by_cases h2:d.it.fr=p
  ·rw[decide_eq_true h2,Bool.or_true,Bool.true_and]
   cases cb with
   |true=>
    rw[if_pos rfl]
    refine PCB.aj (T:=dZ) aS bB rfl mixed Tryz.func38 rfl rfl rfl (Nat.le_of_ble_eq_true rfl) rfl ?_;intro Γ C WK LP fin h0 hk0 hW hC hB hR hLP hfin
    have h04:Γ.n0=4:=h0
    (try (conv=>whnf));(repeat ((first|refine qT ?_|refine qF ?_|refine qO ?_|(with_reducible intro z hz);(first|(replace hz:=hz (by omega);subst hz)|subst hz)|(refine ah.mk _ (hC _ _ _ (PCw.of hCn)) (fun js hjs=>?_);subst hjs));(try (conv=>whnf))))
    refine hfin _ ?_;exact ((aC.row 3 ((((es++[d]).map eiv).map .imm)) rfl (by simp[eiv])).trans (qSL 4 rfl rfl))
   |false=>
    rw[if_neg (by simp)]
    refine PCB.aj (T:=dZ) aS bB rfl mixed Tryz.func38 rfl rfl rfl (Nat.le_of_ble_eq_true rfl) rfl ?_;intro Γ C WK LP fin h0 hk0 hW hC hB hR hLP hfin
    have h04:Γ.n0=4:=h0
    (try (conv=>whnf));(repeat ((first|refine qT ?_|refine qF ?_|refine qO ?_|(with_reducible intro z hz);(first|(replace hz:=hz (by omega);subst hz)|subst hz)|(refine ah.mk _ (hC _ _ _ (PCw.of hCn)) (fun js hjs=>?_);subst hjs));(try (conv=>whnf))))
    refine hfin _ ?_;exact ((aC.renew 3 2 rfl (by first|omega|(intro _;rw[hk0 _ _ rfl];exact Nat.le_of_ble_eq_true rfl)) (by repeat (first|exact trivial|refine And.intro (bA _ _ _ _) ?_|refine And.intro rfl ?_))).trans (qSL 4 rfl rfl))
  ·rw[decide_eq_false h1,decide_eq_false h2,Bool.or_false,Bool.false_and,if_neg (by simp)]
   clear hCn
   refine PCB.aj (T:=dZ) aS bB rfl mixed Tryz.func38 rfl rfl rfl (Nat.le_of_ble_eq_true rfl) rfl ?_;intro Γ C WK LP fin h0 hk0 hW hC hB hR hLP hfin
   have h04:Γ.n0=4:=h0
   (try (conv=>whnf));(repeat ((first|refine qT ?_|refine qF ?_|refine qO ?_|(with_reducible intro z hz);(first|(replace hz:=hz (by omega);subst hz)|subst hz));(try (conv=>whnf))))
   refine hfin _ ?_;exact ((aC.renew 3 2 rfl (by first|omega|(intro _;rw[hk0 _ _ rfl];exact Nat.le_of_ble_eq_true rfl)) (by repeat (first|exact trivial|refine And.intro (bA _ _ _ _) ?_|refine And.intro rfl ?_))).trans (qSL 4 rfl rfl))
theorem M9 {A:List Ac} {D:List Ei} {p:Str} {day:Int} {L:List Ei} {k:Nat} {d:Ei} (h:L[k]?=some d):onL A D p day (L.take (k+1))=if chB d.it.kind=true then (if onB A D p day d=true then onL A D p day (L.take k)++[d] else onL A D p day (L.take k)) else onL A D p day (L.take k):=by
 unfold onL
 rw[xJ h]
 cases chB d.it.kind with
 |true=>
  rw[if_pos rfl,if_pos rfl,List.filter_append]
  cases hb:onB A D p day d<;>simp[List.filter_cons,hb]
 |false=>rfl
theorem Js (A:List Ac) (D:List Ei) (p:Str) (day:Int) (L:List Ei):(onL A D p day L).length≤L.length:=Nat.le_trans (List.length_filter_le _ _) (List.length_filter_le _ _)
theorem EN {l:List Gz} {m:Nat} (hm:m≤300) (h30:bO l m) (p:Str) (day:Int):PCB Tryz.prog aM 34 [.imm (.sl 4 (l.map gzv)),.clo 38 [.ptr 0 1 0,.ptr 1 1 0,.ptr 2 1 0]] [.box 1 [.imm (.str p)],.box 1 [.imm (.int .i64 day)],.box 1 [.imm .nil],.dead 1] [] [.box 1 [.imm (.str p)],.box 1 [.imm (.int .i64 day)],.box 1 [.row 3 2],rwE 2 (onL (bn (allA l)) (aW l) p day (aW l))]:=by
 have hIt:=h30.items (by omega)
 have hAc:=h30.Rh
 have hDl:=h30.jI
 have hAl:(bn (allA l)).length≤1000:=Df h30
 have hnd:=xV l
 generalize bn (allA l)=A at *
 generalize aW l=D at *
 have hRu:=Am A D hAl (by omega)
 have hDy:∀d,_:=fun d=>ze A D d hnd (by omega)
 have hOn:∀(d:Ei) (es:List Ei),es.length≤1000→_:=fun d es h=>Pk A D p day d es (Nat.le_trans (o7 A D d) (by omega)) h
 have hmd:(D.map eiv).length=D.length:=List.length_map _
 refine PCB.aj (T:=(tbF fun r=>Nat.beq r 1)) aS bB rfl mixed Tryz.func34 rfl rfl rfl (Nat.le_of_ble_eq_true rfl) rfl ?_;intro Γ C WK LP fin h0 hk0 hW hC hB hR hLP hfin
 have h04:Γ.n0=4:=h0
 (try (conv=>whnf));(repeat ((first|refine qT ?_|refine qF ?_|refine qO ?_|(with_reducible intro z hz);(first|(replace hz:=hz (by omega);subst hz)|subst hz)|(refine ah.mk _ (hC _ _ _ (PCw.of hIt)) (fun js hjs=>?_);subst hjs));(try (conv=>whnf))))
 refine hW _ _ _ aC.spare ?_
 (try (conv=>whnf));(repeat ((first|refine qT ?_|refine qF ?_|refine qO ?_|(with_reducible intro z hz);(first|(replace hz:=hz (by omega);subst hz)|subst hz)|(refine ah.mk _ (hC _ _ _ (PCw.of hAc)) (fun js hjs=>?_);subst hjs));(try (conv=>whnf))))
 refine bV.mk ([.agg [.row 0 2,.imm (.sl 28 ((evs D).map eiv)),.row 1 2]]) ([.map (.int .i64) 2 (mkL kI stI (stM [] A)),.map (.int .i64) 2 (mkL kI gL (orM [] D))]) (hB _ _ _ _ _ (hRu)) ?_
 (try (conv=>whnf));(repeat ((first|refine qT ?_|refine qF ?_|refine qO ?_|(with_reducible intro z hz);(first|(replace hz:=hz (by omega);subst hz)|subst hz));(try (conv=>whnf))))
 refine hLP _ _ _ Nat (fun k=>⟨[(1,.clo 38 [.ptr 0 1 0,.ptr 1 1 0,.ptr 2 1 0]),(5,.ptr 8 1 0),(14,.imm (.sl 28 (D.map eiv))),(15,.imm (.int .i64 (D.length:Nat))),(16,.imm (.int .i64 (k:Nat)))],[.box 1 [.imm (.str p)],.box 1 [.imm (.int .i64 day)],.box 1 [.row 9 1],.dead 1,.dead 0,.map (.int .i64) 78 (mkL kI gL (orM [] D)),.dead 0,.map (.int .i64) 1 (mkL kI stI (stM [] A)),.box 1 [.row 7 1,.imm (.sl 28 ((evs D).map eiv)),.row 5 78],rwE 1 (onL A D p day (D.take k))]⟩) (fun k=>k≤D.length) (fun k=>D.length - k) 0 (Nat.zero_le _) ((aC.BU 2 0 47 28 rfl rfl).trans (qSL 10 rfl rfl (hE:=by (repeat ((conv=>whnf);first|exact trivial|refine And.intro (by first|exact av.any|exact av.eq (by with_reducible rfl) rfl|exact av.eq (congrArg (fun z=>PV.imm (IV.int IntKind.i64 z)) (by first|omega|(simp[hmd];done)|(simp[hmd];omega))) rfl|exact av.eq (by first|(simp[hmd];done)|fail) rfl|exact av.eq rfl rfl|exact av.le rfl (ILe.nil _)) ?_))))) ?_
 intro k hk
 have hho:=Nat.lt_or_ge k D.length
 cases hho with
 |inl hlt=>
  obtain⟨d,hd⟩:∃d,D[k]?=some d:=⟨D[k],List.getElem?_eq_getElem hlt⟩
  have hst:=M9 (A:=A) (D:=D) (p:=p) (day:=day) hd
  have hel:=Js A D p day (D.take k)
  rw[List.length_take]at hel
  generalize onL A D p day (D.take k)=es at *
  have hAm:=uW d.it.kind
  have hDd:=hDy d
  have hOd:=hOn d es (by omega)
  generalize cK A D d=R at *
  rw[show eiv d=IV.agg _ from rfl]at hDd hOd
  cases hc:chB d.it.kind with
  |true=>
   rw[hc]at hAm
   rw[hc,if_pos rfl]at hst
   (try (conv=>whnf));(repeat ((first|refine qT ?_|refine qF ?_|refine qO ?_|(with_reducible intro z hz);(first|(replace hz:=hz (by omega);subst hz)|subst hz));(try (conv=>whnf))))
   refine Idx.mk k (eiv d) _ rfl (by simp[hd]) rfl ?_
   (try (conv=>whnf));(repeat ((first|refine qT ?_|refine qF ?_|refine qO ?_|(with_reducible intro z hz);(first|(replace hz:=hz (by omega);subst hz)|subst hz)|(refine ah.mk _ (hC _ _ _ (PCw.of hAm)) (fun js hjs=>?_);subst hjs));(try (conv=>whnf))))
   refine bV.mk ([.imm (.sl 2 (R.map Pe.spv))]) (mpC 1 (stM [] A) (orM [] D)) (hB _ _ _ _ _ (hDd)) ?_
   (try (conv=>whnf));(repeat ((first|refine qT ?_|refine qF ?_|refine qO ?_|(with_reducible intro z hz);(first|(replace hz:=hz (by omega);subst hz)|subst hz));(try (conv=>whnf))))
   refine bN.mk (es.map eiv) rfl ?_
   (try (conv=>whnf));(repeat ((first|refine qT ?_|refine qF ?_|refine qO ?_|(with_reducible intro z hz);(first|(replace hz:=hz (by omega);subst hz)|subst hz));(try (conv=>whnf))))
   refine bV.mk ([]) ([.box 1 [.imm (.str p)],.box 1 [.imm (.int .i64 day)],.box 1 [.row 3 2],SK 2 (if onB A D p day d=true then es++[d] else es)]) (hB _ _ _ _ _ (hOd)) ?_
   (try (conv=>whnf));(repeat ((first|refine qT ?_|refine qF ?_|refine qO ?_|(with_reducible intro z hz);(first|(replace hz:=hz (by omega);subst hz)|subst hz));(try (conv=>whnf))))
   exact⟨k+1,by omega,by dsimp only;omega,by
    dsimp only[]
    rw[hst]
    exact (aC.renew 9 1 rfl (by first|omega|(intro _;rw[hk0 _ _ rfl];exact Nat.le_of_ble_eq_true rfl)) (by repeat (first|exact trivial|refine And.intro (bA _ _ _ _) ?_|refine And.intro rfl ?_))).trans (qSL 10 rfl rfl)⟩
  |false=>
   rw[hc]at hAm
   rw[hc,if_neg (by simp)]at hst
   (try (conv=>whnf));(repeat ((first|refine qT ?_|refine qF ?_|refine qO ?_|(with_reducible intro z hz);(first|(replace hz:=hz (by omega);subst hz)|subst hz));(try (conv=>whnf))))
   refine Idx.mk k (eiv d) _ rfl (by simp[hd]) rfl ?_
   (try (conv=>whnf));(repeat ((first|refine qT ?_|refine qF ?_|refine qO ?_|(with_reducible intro z hz);(first|(replace hz:=hz (by omega);subst hz)|subst hz)|(refine ah.mk _ (hC _ _ _ (PCw.of hAm)) (fun js hjs=>?_);subst hjs));(try (conv=>whnf))))
   exact⟨k+1,by omega,by dsimp only;omega,by
    dsimp only[]
    rw[hst]
    exact (qSL 10 rfl rfl)⟩
 |inr hge=>
  obtain rfl:k=D.length:=by omega
  rw[List.take_length]
  (try (conv=>whnf));(repeat ((first|refine qT ?_|refine qF ?_|refine qO ?_|(with_reducible intro z hz);(first|(replace hz:=hz (by omega);subst hz)|subst hz));(try (conv=>whnf))))
  refine hfin _ ?_
  exact (aC.adopt 3 9 2 (by decide) rfl rfl (by rw[h0];exact Nat.le_of_ble_eq_true rfl) (by first|omega|(intro _;rw[hk0 _ _ rfl];exact Nat.le_of_ble_eq_true rfl)) (by repeat (first|exact trivial|refine And.intro (eD _ _ _ _ _) ?_|refine And.intro rfl ?_))).trans (qSL 4 rfl rfl)
end F
end Go.Proofs.YtfjibfdelbodjaaGreat.Po
