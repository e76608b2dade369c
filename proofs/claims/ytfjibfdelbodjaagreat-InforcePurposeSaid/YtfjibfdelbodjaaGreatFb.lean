/-
  In force: the days of an amendment, by the program and by the reference. In force: the amendments, one after another; On.
-/
import Derived.Test.YtfjibfdelbodjaaGreatFa
import Derived.Test.YtfjibfdelbodjaaGreatWDk
import Derived.Test.YtfjibfdelbodjaaGreatWAm
namespace Go.Proofs.YtfjibfdelbodjaaGreat.Po
open Go Go.Pv Go.RowKit
set_option linter.unusedSimpArgs false
open Lab Lcs Go.Proofs.YtfjibfdelbodjaaGreat Go.Proofs.YtfjibfdelbodjaaGreat.Pu
set_option maxRecDepth 10000
set_option maxHeartbeats 32000000
namespace F
theorem Tw (s:Pe.St) (d:Ei) (L:List Ei) (hl:L.length≤1000):PC Tryz.prog aM 84 [Pe.stv s,eiv d,.sl 28 (L.map eiv)] [.sl 2 ((Pe.bB s (enP d) (L.map enP)).map Pe.spv)]:=by
 have h:=Pe.IY s (enP d) (L.map enP) (by rw[List.length_map];exact hl)
 rw[←OO]at h
 exact h
theorem Ti (s:Pe.St) (d:Ei) (L:List Ei) (hl:L.length≤1000):PC Tryz.prog aM 63 [Pe.stv s,eiv d,.sl 28 (L.map eiv)] [.sl 2 ((Pe.bB s (enP d) (L.map enP)).map Pe.spv)]:=by
 have h:=Pe.sP s (enP d) (L.map enP) (by rw[List.length_map];exact hl)
 rw[←OO]at h
 exact h
abbrev mpB (g:Nat) (S:AcM) (M:OrM):List Blk:=[.map (.int .i64) g (mkL kI stI S),.map (.int .i64) g (mkL kI fK M)]
abbrev mpC (g:Nat) (S:AcM) (M:OrM):List CBk:=[.map (.int .i64) g (mkL kI stI S),.map (.int .i64) g (mkL kI fK M)]
theorem QD (m:AcM) (n:Int):fH (mkL kI stI m) (.int .i64 n)=(aO m n).map stI:=nW nV n m
theorem M7 (m:OrM) (n:Int):fH (mkL kI fK m) (.int .i64 n)=(aO m n).map fK:=nW nV n m
theorem T9 (o:Option Ac):Pe.stv (stO o)=(o.map stI).getD (.agg [.int .i64 0,.int .i64 0,.str ⟨#[]⟩]):=by cases o<;>rfl
theorem PE (S:AcM) (M:OrM) (E:List Ei) (d:Ei) (hE:E.length≤400) (hM:(getD' M d.act).length≤400):PCB Tryz.prog aM 62 [.agg [.row 0 1,.imm (.sl 28 (E.map eiv)),.row 1 1],.imm (eiv d)] (mpB 1 S M) [.imm (.sl 2 ((Pe.bB (stO (aO S d.act)) (enP d) ((E++getD' M d.act).map enP)).map Pe.spv))] (mpB 1 S M):=by
 have hls:=QD S d.act
 have hlr:=M7 M d.act
 have hsv:(((aO S d.act).map stI).getD (.agg [.int .i64 0,.int .i64 0,.str ⟨#[]⟩]):IV)=.agg [.int .i64 (stO (aO S d.act)).k,.int .i64 (stO (aO S d.act)).d,.str (stO (aO S d.act)).e]:=(T9 (aO S d.act)).symm
 have hI:=Tw (stO (aO S d.act)) d (E++getD' M d.act) (by rw[List.length_append];omega)
 unfold Pe.stv at hI
 have hC:∀v,v=(((aO M d.act).map fK).getD .nil)→PCR Tryz.prog aM 85 [.sl 1 [.sl 28 (E.map eiv),v]] 47 28 ((E++getD' M d.act).map eiv):=by
  intro v hv
  have h:=GH [.sl 28 (E.map eiv),v] [E.map eiv,(getD' M d.act).map eiv] rfl (fun k x hx=>by
   match k with
   |0=>injection hx with hx;subst hx;exact Or.inl rfl
   |1=>
    injection hx with hx;subst hx;subst hv
    unfold getD'
    cases aO M d.act with
    |none=>exact Or.inr ⟨rfl,rfl⟩
    |some r=>exact Or.inl rfl
   |_+2=>simp at hx) (by simp) (by unfold jf;simp;omega)
  simpa using h
 have hC2:=hC _ rfl
 clear hC
 have hEl:(((E++getD' M d.act).map eiv).map PV.imm).length=(E++getD' M d.act).length:=by simp
 have hEm:(E++getD' M d.act).length≤800:=by rw[List.length_append];omega
 generalize stO (aO S d.act)=s0 at *
 generalize Pe.bB s0 (enP d) ((E++getD' M d.act).map enP)=R at *
 generalize E++getD' M d.act=EL at *
 rw[show eiv d=IV.agg _ from rfl]at hI ⊢
 cases hlm:aO M d.act with
 |none=>
  rw[hlm]at hC2 hlr
  refine PCB.ak (T:=cB) aN aU rfl mixed Tryz.func62 rfl rfl rfl (Nat.le_of_ble_eq_true rfl) rfl ?_;intro Γ C WK LP fin h0 hk0 hW hC hB hR hLP hfin
  have h02:Γ.n0=2:=h0
  (try (conv=>whnf));(repeat ((first|refine qT ?_|refine qF ?_|refine qO ?_|(with_reducible intro z hz);(first|(replace hz:=hz (by omega);subst hz)|subst hz));(try (conv=>whnf))))
  refine gP.mk (.agg [.int .i64 s0.k,.int .i64 s0.d,.str s0.e]) (aO S d.act).isSome (by rw[hls];exact hsv) (by rw[hls];simp) ?_
  (try (conv=>whnf));(repeat ((first|refine qT ?_|refine qF ?_|refine qO ?_|(with_reducible intro z hz);(first|(replace hz:=hz (by omega);subst hz)|subst hz));(try (conv=>whnf))))
  refine gP.mk .nil false (by rw[hlr];rfl) (by rw[hlr];rfl) ?_
  (try (conv=>whnf));(repeat ((first|refine qT ?_|refine qF ?_|refine qO ?_|(with_reducible intro z hz);(first|(replace hz:=hz (by omega);subst hz)|subst hz));(try (conv=>whnf))))
  refine bK.mk [.sl 28 (E.map eiv),.nil] rfl ?_
  (try (conv=>whnf));(repeat ((first|refine qT ?_|refine qF ?_|refine qO ?_|(with_reducible intro z hz);(first|(replace hz:=hz (by omega);subst hz)|subst hz));(try (conv=>whnf))))
  refine ah.row _ _ _ (hR _ _ _ _ _ (vw.of (hC2))) (fun js hjs=>?_);subst hjs
  (try (conv=>whnf));(repeat ((first|refine qT ?_|refine qF ?_|refine qO ?_|(with_reducible intro z hz);(first|(replace hz:=hz (by omega);subst hz)|subst hz));(try (conv=>whnf))))
  refine bK.mk (EL.map eiv) rfl ?_
  (try (conv=>whnf));(repeat ((first|refine qT ?_|refine qF ?_|refine qO ?_|(with_reducible intro z hz);(first|(replace hz:=hz (by omega);subst hz)|subst hz)|(refine ah.mk _ (hC _ _ _ (PCw.of hI)) (fun js hjs=>?_);subst hjs));(try (conv=>whnf))))
  exact hfin _ (qSL 2 rfl rfl)
 |some r=>
  rw[hlm]at hC2 hlr
  refine PCB.ak (T:=cB) aN aU rfl mixed Tryz.func62 rfl rfl rfl (Nat.le_of_ble_eq_true rfl) rfl ?_;intro Γ C WK LP fin h0 hk0 hW hC hB hR hLP hfin
  have h02:Γ.n0=2:=h0
  (try (conv=>whnf));(repeat ((first|refine qT ?_|refine qF ?_|refine qO ?_|(with_reducible intro z hz);(first|(replace hz:=hz (by omega);subst hz)|subst hz));(try (conv=>whnf))))
  refine gP.mk (.agg [.int .i64 s0.k,.int .i64 s0.d,.str s0.e]) (aO S d.act).isSome (by rw[hls];exact hsv) (by rw[hls];simp) ?_
  (try (conv=>whnf));(repeat ((first|refine qT ?_|refine qF ?_|refine qO ?_|(with_reducible intro z hz);(first|(replace hz:=hz (by omega);subst hz)|subst hz));(try (conv=>whnf))))
  refine gP.mk (.sl 28 (r.map eiv)) true (by rw[hlr];rfl) (by rw[hlr];rfl) ?_
  (try (conv=>whnf));(repeat ((first|refine qT ?_|refine qF ?_|refine qO ?_|(with_reducible intro z hz);(first|(replace hz:=hz (by omega);subst hz)|subst hz));(try (conv=>whnf))))
  refine bK.mk [.sl 28 (E.map eiv),(.sl 28 (r.map eiv))] rfl ?_
  (try (conv=>whnf));(repeat ((first|refine qT ?_|refine qF ?_|refine qO ?_|(with_reducible intro z hz);(first|(replace hz:=hz (by omega);subst hz)|subst hz));(try (conv=>whnf))))
  refine ah.row _ _ _ (hR _ _ _ _ _ (vw.of (hC2))) (fun js hjs=>?_);subst hjs
  (try (conv=>whnf));(repeat ((first|refine qT ?_|refine qF ?_|refine qO ?_|(with_reducible intro z hz);(first|(replace hz:=hz (by omega);subst hz)|subst hz));(try (conv=>whnf))))
  refine bK.mk (EL.map eiv) rfl ?_
  (try (conv=>whnf));(repeat ((first|refine qT ?_|refine qF ?_|refine qO ?_|(with_reducible intro z hz);(first|(replace hz:=hz (by omega);subst hz)|subst hz)|(refine ah.mk _ (hC _ _ _ (PCw.of hI)) (fun js hjs=>?_);subst hjs));(try (conv=>whnf))))
  exact hfin _ (qSL 2 rfl rfl)
end F
end Go.Proofs.YtfjibfdelbodjaaGreat.Po
namespace Go.Proofs.YtfjibfdelbodjaaGreat.Po
open Go Go.Pv Go.RowKit
set_option linter.unusedSimpArgs false
open Lab Lcs Go.Proofs.YtfjibfdelbodjaaGreat Go.Proofs.YtfjibfdelbodjaaGreat.Pu
set_option maxRecDepth 10000
set_option maxHeartbeats 32000000
namespace F
def amL (D:List Ei):List Ei:=D.filter fun d=>chB d.it.kind
theorem nR {D:List Ei} {k:Nat} {d:Ei} (h:D[k]?=some d):amL (D.take (k+1))=if chB d.it.kind=true then amL (D.take k)++[d] else amL (D.take k):=by
 unfold amL
 rw[take_at h,List.filter_append]
 cases hk:chB d.it.kind with
 |true=>simp[List.filter_cons,hk]
 |false=>simp[List.filter_cons,hk]
theorem lW (l:List Gz):((bn (allA l)).map Ac.num).Nodup:=by
 have hp:((lC l).acts.map Prod.snd).Perm (bn (allA l)):=by
  rw[mK]
  have:=eH (allA l) (allA l).length (Nat.le_refl _)
  unfold rgK at this
  rw[List.take_length]at this
  exact this.symm
 have hg:iO (fun _=>True) (lC l):=lN (fun _ _ _ _=>trivial)
 refine ((hp.map Ac.num).nodup_iff).1 ?_
 have:((lC l).acts.map Prod.snd).map Ac.num=(lC l).acts.map Prod.fst:=by
  rw[List.map_map]
  exact List.map_congr_left fun p h=>(hg.key p h).symm
 rw[this]
 exact hg.nodup
theorem rE {l:List Gz} {m:Nat} (h:bH l m):(bn (allA l)).length≤1000:=by
 have h2:=lD (allA l) (allA l).length
 have h3:=mP l (fun g hg=>by have:=h.acts g hg;omega)
 have h4:=h.len
 rw[show bW (allA l) (allA l).length=bn (allA l) from rfl]at h2
 have h5:(allA l).length≤8*l.length:=by
  have:∀(l:List Gz),(∀g∈l,g.acts.length≤8)→(allA l).length≤8*l.length:=by
   intro l
   induction l with
   |nil=>intro _;exact Nat.le_refl _
   |cons g l ih=>
    intro hg
    have h1:=hg g List.mem_cons_self
    have h2:=ih fun x hx=>hg x (List.mem_cons_of_mem _ hx)
    show (g.acts++allA l).length≤_
    rw[List.length_append,List.length_cons]
    omega
  exact this l h.acts
 omega
theorem Pk (A:List Ac) (D:List Ei) (d:Ei) (hA:(A.map Ac.num).Nodup):Pe.bB (stO (aO (stM [] A) d.act)) (enP d) ((evs D++getD' (orM [] D) d.act).map enP)=cu A D d:=by
 rw[EY d.act A [] hA,qY]
 show Pe.bB (stO ((A.find? fun a=>decide (a.num=d.act)).or none)) (enP d) ((evs D++([]++CG d.act D)).map enP)=_
 rw[Option.or_none,List.nil_append,K6]
 rfl
theorem oJ (A:List Ac) (D:List Ei) (d:Ei) (hA:(A.map Ac.num).Nodup) (hD:D.length≤400):PCB Tryz.prog aM 62 [.agg [.row 0 1,.imm (.sl 28 ((evs D).map eiv)),.row 1 1],.imm (eiv d)] (mpB 1 (stM [] A) (orM [] D)) [.imm (.sl 2 ((cu A D d).map Pe.spv))] (mpB 1 (stM [] A) (orM [] D)):=by
 have h:=PE (stM [] A) (orM [] D) (evs D) d (Nat.le_trans (List.length_filter_le _ _) hD) (by
  rw[qY]
  exact Nat.le_trans (List.length_filter_le _ _) hD)
 rw[Pk A D d hA]at h
 exact h
noncomputable def onB (A:List Ac) (D:List Ei) (p:Str) (day:Int) (d:Ei):Bool:=(decide (d.it.fr=⟨#[]⟩)||decide (d.it.fr=p))&&Rm.fG (cu A D d) day
noncomputable def onL (A:List Ac) (D:List Ei) (p:Str) (day:Int) (L:List Ei):List Ei:=(amL L).filter (onB A D p day)
abbrev rwE (g:Nat) (l:List Ei):Blk:=.row 47 28 g ((l.map eiv).map .imm)
abbrev Ud (g:Nat) (l:List Ei):CBk:=.row 47 28 g (l.map eiv)
theorem SV (L:List Spans.Sp) (d:Int) (hl:L.length≤1000000000):PC Tryz.prog aM 39 [.sl 2 (L.map Pe.spv),.int .i64 d] [.bool (Rm.fG L d)]:=Pe.FW L d hl
theorem RL (A:List Ac) (D:List Ei) (p:Str) (day:Int) (d:Ei) (es:List Ei) (hl:(cu A D d).length≤1000) (he:es.length≤1000):PCB Tryz.prog aM 38 [.imm (eiv d),.imm (.sl 2 ((cu A D d).map Pe.spv)),.ptr 0 1 0,.ptr 1 1 0,.ptr 2 1 0] [.box 1 [.imm (.str p)],.box 1 [.imm (.int .i64 day)],.box 1 [.row 3 1],rwE 1 es] [] [.box 1 [.imm (.str p)],.box 1 [.imm (.int .i64 day)],.box 1 [.row 3 2],rwE 2 (if onB A D p day d=true then es++[d] else es)]:=by
 have hCn:=SV (cu A D d) day (by omega)
 unfold onB
 generalize cu A D d=R at *
 have hel:((es.map eiv).map PV.imm).length=es.length:=by simp
 generalize Rm.fG R day=cb at *
 rw[show eiv d=IV.agg _ from rfl]
 by_cases h1:d.it.fr=⟨#[]⟩
 ·rw[decide_eq_true h1,Bool.true_or,Bool.true_and]
  cases cb with
  |true=>
   rw[if_pos rfl]
   refine PCB.ak (T:=cB) aN aU rfl mixed Tryz.func38 rfl rfl rfl (Nat.le_of_ble_eq_true rfl) rfl ?_;intro Γ C WK LP fin h0 hk0 hW hC hB hR hLP hfin
   have h04:Γ.n0=4:=h0
   (try (conv=>whnf));(repeat ((first|refine qT ?_|refine qF ?_|refine qO ?_|(with_reducible intro z hz);(first|(replace hz:=hz (by omega);subst hz)|subst hz)|(refine ah.mk _ (hC _ _ _ (PCw.of hCn)) (fun js hjs=>?_);subst hjs));(try (conv=>whnf))))
   refine hfin _ ?_;exact ((aA.row 3 ((((es++[d]).map eiv).map .imm)) rfl (by simp[eiv])).trans (qSL 4 rfl rfl))
  |false=>
   rw[if_neg (by simp)]
   refine PCB.ak (T:=cB) aN aU rfl mixed Tryz.func38 rfl rfl rfl (Nat.le_of_ble_eq_true rfl) rfl ?_;intro Γ C WK LP fin h0 hk0 hW hC hB hR hLP hfin
   have h04:Γ.n0=4:=h0
   (try (conv=>whnf));(repeat ((first|refine qT ?_|refine qF ?_|refine qO ?_|(with_reducible intro z hz);(first|(replace hz:=hz (by omega);subst hz)|subst hz)|(refine ah.mk _ (hC _ _ _ (PCw.of hCn)) (fun js hjs=>?_);subst hjs));(try (conv=>whnf))))
   refine hfin _ ?_;exact ((aA.renew 3 2 rfl (by first|omega|(intro _;rw[hk0 _ _ rfl];exact Nat.le_of_ble_eq_true rfl)) (by repeat (first|exact trivial|refine And.intro (aY _ _ _ _) ?_|refine And.intro rfl ?_))).trans (qSL 4 rfl rfl))
 ·by_cases h2:d.it.fr=p
  ·rw[decide_eq_true h2,Bool.or_true,Bool.true_and]
   cases cb with
   |true=>
    rw[if_pos rfl]
    refine PCB.ak (T:=cB) aN aU rfl mixed Tryz.func38 rfl rfl rfl (Nat.le_of_ble_eq_true rfl) rfl ?_;intro Γ C WK LP fin h0 hk0 hW hC hB hR hLP hfin
    have h04:Γ.n0=4:=h0
    (try (conv=>whnf));(repeat ((first|refine qT ?_|refine qF ?_|refine qO ?_|(with_reducible intro z hz);(first|(replace hz:=hz (by omega);subst hz)|subst hz)|(refine ah.mk _ (hC _ _ _ (PCw.of hCn)) (fun js hjs=>?_);subst hjs));(try (conv=>whnf))))
    refine hfin _ ?_;exact ((aA.row 3 ((((es++[d]).map eiv).map .imm)) rfl (by simp[eiv])).trans (qSL 4 rfl rfl))
   |false=>
    rw[if_neg (by simp)]
    refine PCB.ak (T:=cB) aN aU rfl mixed Tryz.func38 rfl rfl rfl (Nat.le_of_ble_eq_true rfl) rfl ?_;intro Γ C WK LP fin h0 hk0 hW hC hB hR hLP hfin
    have h04:Γ.n0=4:=h0
    (try (conv=>whnf));(repeat ((first|refine qT ?_|refine qF ?_|refine qO ?_|(with_reducible intro z hz);(first|(replace hz:=hz (by omega);subst hz)|subst hz)|(refine ah.mk _ (hC _ _ _ (PCw.of hCn)) (fun js hjs=>?_);subst hjs));(try (conv=>whnf))))
    refine hfin _ ?_;exact ((aA.renew 3 2 rfl (by first|omega|(intro _;rw[hk0 _ _ rfl];exact Nat.le_of_ble_eq_true rfl)) (by repeat (first|exact trivial|refine And.intro (aY _ _ _ _) ?_|refine And.intro rfl ?_))).trans (qSL 4 rfl rfl))
  ·rw[decide_eq_false h1,decide_eq_false h2,Bool.or_false,Bool.false_and,if_neg (by simp)]
   clear hCn
   refine PCB.ak (T:=cB) aN aU rfl mixed Tryz.func38 rfl rfl rfl (Nat.le_of_ble_eq_true rfl) rfl ?_;intro Γ C WK LP fin h0 hk0 hW hC hB hR hLP hfin
   have h04:Γ.n0=4:=h0
   (try (conv=>whnf));(repeat ((first|refine qT ?_|refine qF ?_|refine qO ?_|(with_reducible intro z hz);(first|(replace hz:=hz (by omega);subst hz)|subst hz));(try (conv=>whnf))))
   refine hfin _ ?_;exact ((aA.renew 3 2 rfl (by first|omega|(intro _;rw[hk0 _ _ rfl];exact Nat.le_of_ble_eq_true rfl)) (by repeat (first|exact trivial|refine And.intro (aY _ _ _ _) ?_|refine And.intro rfl ?_))).trans (qSL 4 rfl rfl))
theorem OG {A:List Ac} {D:List Ei} {p:Str} {day:Int} {L:List Ei} {k:Nat} {d:Ei} (h:L[k]?=some d):onL A D p day (L.take (k+1))=if chB d.it.kind=true then (if onB A D p day d=true then onL A D p day (L.take k)++[d] else onL A D p day (L.take k)) else onL A D p day (L.take k):=by
 unfold onL
 rw[nR h]
 cases chB d.it.kind with
 |true=>
  rw[if_pos rfl,if_pos rfl,List.filter_append]
  cases hb:onB A D p day d<;>simp[List.filter_cons,hb]
 |false=>rfl
theorem KL (A:List Ac) (D:List Ei) (p:Str) (day:Int) (L:List Ei):(onL A D p day L).length≤L.length:=Nat.le_trans (List.length_filter_le _ _) (List.length_filter_le _ _)
theorem Ej {l:List Gz} {m:Nat} (hm:m≤300) (h30:bH l m) (p:Str) (day:Int):PCB Tryz.prog aM 34 [.imm (.sl 4 (l.map gzv)),.clo 38 [.ptr 0 1 0,.ptr 1 1 0,.ptr 2 1 0]] [.box 1 [.imm (.str p)],.box 1 [.imm (.int .i64 day)],.box 1 [.imm .nil],.dead 1] [] [.box 1 [.imm (.str p)],.box 1 [.imm (.int .i64 day)],.box 1 [.row 3 2],rwE 2 (onL (bn (allA l)) (aP l) p day (aP l))]:=by
 have hIt:=h30.items (by omega)
 have hAc:=h30.KP
 have hDl:=h30.dI
 have hAl:(bn (allA l)).length≤1000:=rE h30
 have hnd:=lW l
 generalize bn (allA l)=A at *
 generalize aP l=D at *
 have hRu:=oK A D hAl (by omega)
 have hDy:∀d,_:=fun d=>oJ A D d hnd (by omega)
 have hOn:∀(d:Ei) (es:List Ei),es.length≤1000→_:=fun d es h=>RL A D p day d es (Nat.le_trans (lg A D d) (by omega)) h
 have hmd:(D.map eiv).length=D.length:=List.length_map _
 refine PCB.ak (T:=(tbF fun r=>Nat.beq r 1)) aN aU rfl mixed Tryz.func34 rfl rfl rfl (Nat.le_of_ble_eq_true rfl) rfl ?_;intro Γ C WK LP fin h0 hk0 hW hC hB hR hLP hfin
 have h04:Γ.n0=4:=h0
 (try (conv=>whnf));(repeat ((first|refine qT ?_|refine qF ?_|refine qO ?_|(with_reducible intro z hz);(first|(replace hz:=hz (by omega);subst hz)|subst hz)|(refine ah.mk _ (hC _ _ _ (PCw.of hIt)) (fun js hjs=>?_);subst hjs));(try (conv=>whnf))))
 refine hW _ _ _ aA.spare ?_
 (try (conv=>whnf));(repeat ((first|refine qT ?_|refine qF ?_|refine qO ?_|(with_reducible intro z hz);(first|(replace hz:=hz (by omega);subst hz)|subst hz)|(refine ah.mk _ (hC _ _ _ (PCw.of hAc)) (fun js hjs=>?_);subst hjs));(try (conv=>whnf))))
 refine bG.mk ([.agg [.row 0 2,.imm (.sl 28 ((evs D).map eiv)),.row 1 2]]) ([.map (.int .i64) 2 (mkL kI stI (stM [] A)),.map (.int .i64) 2 (mkL kI fK (orM [] D))]) (hB _ _ _ _ _ (hRu)) ?_
 (try (conv=>whnf));(repeat ((first|refine qT ?_|refine qF ?_|refine qO ?_|(with_reducible intro z hz);(first|(replace hz:=hz (by omega);subst hz)|subst hz));(try (conv=>whnf))))
 refine hLP _ _ _ Nat (fun k=>⟨[(1,.clo 38 [.ptr 0 1 0,.ptr 1 1 0,.ptr 2 1 0]),(5,.ptr 8 1 0),(14,.imm (.sl 28 (D.map eiv))),(15,.imm (.int .i64 (D.length:Nat))),(16,.imm (.int .i64 (k:Nat)))],[.box 1 [.imm (.str p)],.box 1 [.imm (.int .i64 day)],.box 1 [.row 9 1],.dead 1,.dead 0,.map (.int .i64) 78 (mkL kI fK (orM [] D)),.dead 0,.map (.int .i64) 1 (mkL kI stI (stM [] A)),.box 1 [.row 7 1,.imm (.sl 28 ((evs D).map eiv)),.row 5 78],rwE 1 (onL A D p day (D.take k))]⟩) (fun k=>k≤D.length) (fun k=>D.length - k) 0 (Nat.zero_le _) ((aA.vT 2 0 47 28 rfl rfl).trans (qSL 10 rfl rfl (hE:=by (repeat ((conv=>whnf);first|exact trivial|refine And.intro (by first|exact aj.any|exact aj.eq (by with_reducible rfl) rfl|exact aj.eq (congrArg (fun z=>PV.imm (IV.int IntKind.i64 z)) (by first|omega|(simp[hmd];done)|(simp[hmd];omega))) rfl|exact aj.eq (by first|(simp[hmd];done)|fail) rfl|exact aj.eq rfl rfl|exact aj.le rfl (ILe.nil _)) ?_))))) ?_
 intro k hk
 have hho:=Nat.lt_or_ge k D.length
 cases hho with
 |inl hlt=>
  obtain⟨d,hd⟩:∃d,D[k]?=some d:=⟨D[k],List.getElem?_eq_getElem hlt⟩
  have hst:=OG (A:=A) (D:=D) (p:=p) (day:=day) hd
  have hel:=KL A D p day (D.take k)
  rw[List.length_take]at hel
  generalize onL A D p day (D.take k)=es at *
  have hAm:=oN d.it.kind
  have hDd:=hDy d
  have hOd:=hOn d es (by omega)
  generalize cu A D d=R at *
  rw[show eiv d=IV.agg _ from rfl]at hDd hOd
  cases hc:chB d.it.kind with
  |true=>
   rw[hc]at hAm
   rw[hc,if_pos rfl]at hst
   (try (conv=>whnf));(repeat ((first|refine qT ?_|refine qF ?_|refine qO ?_|(with_reducible intro z hz);(first|(replace hz:=hz (by omega);subst hz)|subst hz));(try (conv=>whnf))))
   refine Idx.mk k (eiv d) _ rfl (by simp[hd]) rfl ?_
   (try (conv=>whnf));(repeat ((first|refine qT ?_|refine qF ?_|refine qO ?_|(with_reducible intro z hz);(first|(replace hz:=hz (by omega);subst hz)|subst hz)|(refine ah.mk _ (hC _ _ _ (PCw.of hAm)) (fun js hjs=>?_);subst hjs));(try (conv=>whnf))))
   refine bG.mk ([.imm (.sl 2 (R.map Pe.spv))]) (mpC 1 (stM [] A) (orM [] D)) (hB _ _ _ _ _ (hDd)) ?_
   (try (conv=>whnf));(repeat ((first|refine qT ?_|refine qF ?_|refine qO ?_|(with_reducible intro z hz);(first|(replace hz:=hz (by omega);subst hz)|subst hz));(try (conv=>whnf))))
   refine bK.mk (es.map eiv) rfl ?_
   (try (conv=>whnf));(repeat ((first|refine qT ?_|refine qF ?_|refine qO ?_|(with_reducible intro z hz);(first|(replace hz:=hz (by omega);subst hz)|subst hz));(try (conv=>whnf))))
   refine bG.mk ([]) ([.box 1 [.imm (.str p)],.box 1 [.imm (.int .i64 day)],.box 1 [.row 3 2],Ud 2 (if onB A D p day d=true then es++[d] else es)]) (hB _ _ _ _ _ (hOd)) ?_
   (try (conv=>whnf));(repeat ((first|refine qT ?_|refine qF ?_|refine qO ?_|(with_reducible intro z hz);(first|(replace hz:=hz (by omega);subst hz)|subst hz));(try (conv=>whnf))))
   exact⟨k+1,by omega,by dsimp only;omega,by
    dsimp only[]
    rw[hst]
    exact (aA.renew 9 1 rfl (by first|omega|(intro _;rw[hk0 _ _ rfl];exact Nat.le_of_ble_eq_true rfl)) (by repeat (first|exact trivial|refine And.intro (aY _ _ _ _) ?_|refine And.intro rfl ?_))).trans (qSL 10 rfl rfl)⟩
  |false=>
   rw[hc]at hAm
   rw[hc,if_neg (by simp)]at hst
   (try (conv=>whnf));(repeat ((first|refine qT ?_|refine qF ?_|refine qO ?_|(with_reducible intro z hz);(first|(replace hz:=hz (by omega);subst hz)|subst hz));(try (conv=>whnf))))
   refine Idx.mk k (eiv d) _ rfl (by simp[hd]) rfl ?_
   (try (conv=>whnf));(repeat ((first|refine qT ?_|refine qF ?_|refine qO ?_|(with_reducible intro z hz);(first|(replace hz:=hz (by omega);subst hz)|subst hz)|(refine ah.mk _ (hC _ _ _ (PCw.of hAm)) (fun js hjs=>?_);subst hjs));(try (conv=>whnf))))
   exact⟨k+1,by omega,by dsimp only;omega,by
    dsimp only[]
    rw[hst]
    exact (qSL 10 rfl rfl)⟩
 |inr hge=>
  obtain rfl:k=D.length:=by omega
  rw[List.take_length]
  (try (conv=>whnf));(repeat ((first|refine qT ?_|refine qF ?_|refine qO ?_|(with_reducible intro z hz);(first|(replace hz:=hz (by omega);subst hz)|subst hz));(try (conv=>whnf))))
  refine hfin _ ?_
  exact (aA.adopt 3 9 2 (by decide) rfl rfl (by rw[h0];exact Nat.le_of_ble_eq_true rfl) (by first|omega|(intro _;rw[hk0 _ _ rfl];exact Nat.le_of_ble_eq_true rfl)) (by repeat (first|exact trivial|refine And.intro (dU _ _ _ _ _) ?_|refine And.intro rfl ?_))).trans (qSL 4 rfl rfl)
end F
end Go.Proofs.YtfjibfdelbodjaaGreat.Po
