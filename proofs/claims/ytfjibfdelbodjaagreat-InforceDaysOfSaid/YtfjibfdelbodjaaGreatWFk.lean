/-
  In force: the law of the amendments in force.
-/
import Derived.Test.YtfjibfdelbodjaaGreatFd
import Derived.Test.YtfjibfdelbodjaaGreatHb
namespace Go.Proofs.YtfjibfdelbodjaaGreat.Po
open Go Go.Pv Go.RowKit
set_option linter.unusedSimpArgs false
open Lab Lcs Go.Proofs.YtfjibfdelbodjaaGreat Go.Proofs.YtfjibfdelbodjaaGreat.Pu
set_option maxRecDepth 10000
set_option maxHeartbeats 32000000
namespace F
theorem uR {α:Type} {p:α→Bool} {l:List α} {k:Nat} {x:α} (h:l[k]?=some x):(l.take (k+1)).filter p=if p x=true then (l.take k).filter p++[x] else (l.take k).filter p:=by
 rw[take_at h,List.filter_append]
 cases hx:p x<;>simp[List.filter_cons,hx]
theorem TP {l:List Gz} {m:Nat} (hm:m≤300) (h30:bH l m) (day:Int) (p:Str):PC Tryz.prog aM 17 [.int .i64 day,.str p,.sl 4 (l.map gzv)] [.sl 28 ((onG l day p).map eiv)]:=by
 have hCh:=Jq hm h30
 have hDl:=h30.dI
 have hOfs:∀d,_:=fun d=>Kh hm h30 d
 have hHas:∀d,_:=fun d=>Pg (pU l d) day (Nat.le_trans (lg _ _ d) (by omega))
 have hcm:∀d,onB (bn (allA l)) (aP l) p day d=((decide (d.it.fr=⟨#[]⟩)||decide (d.it.fr=p))&&Spans.aJ (pU l d) day):=fun d=>by
  unfold onB
  rw[oZ (Bb _ _ d)]
  rfl
 unfold onG onL
 generalize onB (bn (allA l)) (aP l) p day=ob at *
 generalize hDD:amL (aP l)=D at *
 have hDn:D.length≤300:=by rw[←hDD];exact Nat.le_trans (List.length_filter_le _ _) (by omega)
 have hmd:(D.map eiv).length=D.length:=List.length_map _
 refine PC.ak (T:=cB) aN aU rfl mixed Tryz.func17 rfl rfl (Nat.le_of_ble_eq_true rfl) ?_;intro Γ C WK LP fin h0 hW hC hB hR hLP hfin
 have h00:Γ.n0=0:=h0
 (try (conv=>whnf));(repeat ((first|refine qT ?_|refine qF ?_|refine qO ?_|(with_reducible intro z hz);(first|(replace hz:=hz (by omega);subst hz)|subst hz)|(refine ah.mk _ (hC _ _ _ (PCw.of hCh)) (fun js hjs=>?_);subst hjs));(try (conv=>whnf))))
 refine hLP _ _ _ Nat (fun k=>⟨[(0,.imm (.int .i64 day)),(1,.imm (.str p)),(2,.imm (.sl 4 (l.map gzv))),(7,.row 0 1),(8,.imm (.sl 28 (D.map eiv))),(9,.imm (.int .i64 (k:Nat)))],[rwE 1 ((D.take k).filter ob)]⟩) (fun k=>k≤D.length) (fun k=>D.length - k) 0 (Nat.zero_le _) ((aA.row 0 (((((D.take 0).filter ob).map eiv).map .imm)) rfl (by rfl)).trans (qSL 1 rfl rfl (hE:=by (repeat ((conv=>whnf);first|exact trivial|refine And.intro (by first|exact aj.any|exact aj.eq (by with_reducible rfl) rfl|exact aj.eq (congrArg (fun z=>PV.imm (IV.int IntKind.i64 z)) (by first|omega|(simp[hmd];done)|(simp[hmd];omega))) rfl|exact aj.eq (by first|(simp[hmd];done)|fail) rfl|exact aj.eq rfl rfl|exact aj.le rfl (ILe.nil _)) ?_))))) ?_
 intro k hk
 have hho:=Nat.lt_or_ge k D.length
 cases hho with
 |inl hlt=>
  obtain⟨d,hd⟩:∃d,D[k]?=some d:=⟨D[k],List.getElem?_eq_getElem hlt⟩
  have hst:=uR (p:=ob) hd
  have hel:((D.take k).filter ob).length≤k:=Nat.le_trans (List.length_filter_le _ _) (by rw[List.length_take];omega)
  generalize (D.take k).filter ob=es at *
  have hlm:((es.map eiv).map PV.imm).length=es.length:=by simp
  have hOf:=hOfs d
  have hHs:=hHas d
  rw[hcm d]at hst
  generalize pU l d=R at *
  clear hOfs hHas hcm
  rw[show eiv d=IV.agg _ from rfl]at hOf
  by_cases h1:d.it.fr=⟨#[]⟩
  ·rw[decide_eq_true h1,Bool.true_or,Bool.true_and]at hst
   cases hb:Spans.aJ R day with
   |true=>
    rw[hb]at hHs
    have hst:_=es++[d]:=hst.trans (if_pos (by rw[hb]))
    (try (conv=>whnf));(repeat ((first|refine qT ?_|refine qF ?_|refine qO ?_|(with_reducible intro z hz);(first|(replace hz:=hz (by omega);subst hz)|subst hz));(try (conv=>whnf))))
    refine Idx.mk k (eiv d) _ rfl (by simp[hd]) rfl ?_
    (try (conv=>whnf));(repeat ((first|refine qT ?_|refine qF ?_|refine qO ?_|(with_reducible intro z hz);(first|(replace hz:=hz (by omega);subst hz)|subst hz));(try (conv=>whnf))))
    refine Idx.mk k (eiv d) _ rfl (by simp[hd]) rfl ?_
    (try (conv=>whnf));(repeat ((first|refine qT ?_|refine qF ?_|refine qO ?_|(with_reducible intro z hz);(first|(replace hz:=hz (by omega);subst hz)|subst hz)|(refine ah.mk _ (hC _ _ _ (PCw.of hOf)) (fun js hjs=>?_);subst hjs)|(refine ah.mk _ (hC _ _ _ (PCw.of hHs)) (fun js hjs=>?_);subst hjs));(try (conv=>whnf))))
    refine Idx.mk k (eiv d) _ rfl (by simp[hd]) rfl ?_
    (try (conv=>whnf));(repeat ((first|refine qT ?_|refine qF ?_|refine qO ?_|(with_reducible intro z hz);(first|(replace hz:=hz (by omega);subst hz)|subst hz));(try (conv=>whnf))))
    exact⟨k+1,by omega,by dsimp only;omega,by
     dsimp only[]
     rw[hst]
     exact (aA.row 0 ((((es++[d]).map eiv).map .imm)) rfl (by simp[eiv];rfl)).trans ((aA.renew 0 1 rfl (by first|omega|(intro _;rw[hk0 _ _ rfl];exact Nat.le_of_ble_eq_true rfl)) (by repeat (first|exact trivial|refine And.intro (aY _ _ _ _) ?_|refine And.intro rfl ?_))).trans (qSL 1 rfl rfl))⟩
   |false=>
    rw[hb]at hHs
    have hst:_=es:=hst.trans (if_neg (by rw[hb];simp))
    (try (conv=>whnf));(repeat ((first|refine qT ?_|refine qF ?_|refine qO ?_|(with_reducible intro z hz);(first|(replace hz:=hz (by omega);subst hz)|subst hz));(try (conv=>whnf))))
    refine Idx.mk k (eiv d) _ rfl (by simp[hd]) rfl ?_
    (try (conv=>whnf));(repeat ((first|refine qT ?_|refine qF ?_|refine qO ?_|(with_reducible intro z hz);(first|(replace hz:=hz (by omega);subst hz)|subst hz));(try (conv=>whnf))))
    refine Idx.mk k (eiv d) _ rfl (by simp[hd]) rfl ?_
    (try (conv=>whnf));(repeat ((first|refine qT ?_|refine qF ?_|refine qO ?_|(with_reducible intro z hz);(first|(replace hz:=hz (by omega);subst hz)|subst hz)|(refine ah.mk _ (hC _ _ _ (PCw.of hOf)) (fun js hjs=>?_);subst hjs)|(refine ah.mk _ (hC _ _ _ (PCw.of hHs)) (fun js hjs=>?_);subst hjs));(try (conv=>whnf))))
    exact⟨k+1,by omega,by dsimp only;omega,by
     dsimp only[]
     rw[hst]
     exact (qSL 1 rfl rfl)⟩
  ·by_cases h2:d.it.fr=p
   ·rw[decide_eq_true h2,Bool.or_true,Bool.true_and]at hst
    cases hb:Spans.aJ R day with
    |true=>
     rw[hb]at hHs
     have hst:_=es++[d]:=hst.trans (if_pos (by rw[hb]))
     (try (conv=>whnf));(repeat ((first|refine qT ?_|refine qF ?_|refine qO ?_|(with_reducible intro z hz);(first|(replace hz:=hz (by omega);subst hz)|subst hz));(try (conv=>whnf))))
     refine Idx.mk k (eiv d) _ rfl (by simp[hd]) rfl ?_
     (try (conv=>whnf));(repeat ((first|refine qT ?_|refine qF ?_|refine qO ?_|(with_reducible intro z hz);(first|(replace hz:=hz (by omega);subst hz)|subst hz));(try (conv=>whnf))))
     refine Idx.mk k (eiv d) _ rfl (by simp[hd]) rfl ?_
     (try (conv=>whnf));(repeat ((first|refine qT ?_|refine qF ?_|refine qO ?_|(with_reducible intro z hz);(first|(replace hz:=hz (by omega);subst hz)|subst hz));(try (conv=>whnf))))
     refine Idx.mk k (eiv d) _ rfl (by simp[hd]) rfl ?_
     (try (conv=>whnf));(repeat ((first|refine qT ?_|refine qF ?_|refine qO ?_|(with_reducible intro z hz);(first|(replace hz:=hz (by omega);subst hz)|subst hz)|(refine ah.mk _ (hC _ _ _ (PCw.of hOf)) (fun js hjs=>?_);subst hjs)|(refine ah.mk _ (hC _ _ _ (PCw.of hHs)) (fun js hjs=>?_);subst hjs));(try (conv=>whnf))))
     refine Idx.mk k (eiv d) _ rfl (by simp[hd]) rfl ?_
     (try (conv=>whnf));(repeat ((first|refine qT ?_|refine qF ?_|refine qO ?_|(with_reducible intro z hz);(first|(replace hz:=hz (by omega);subst hz)|subst hz));(try (conv=>whnf))))
     exact⟨k+1,by omega,by dsimp only;omega,by
      dsimp only[]
      rw[hst]
      exact (aA.row 0 ((((es++[d]).map eiv).map .imm)) rfl (by simp[eiv];rfl)).trans ((aA.renew 0 1 rfl (by first|omega|(intro _;rw[hk0 _ _ rfl];exact Nat.le_of_ble_eq_true rfl)) (by repeat (first|exact trivial|refine And.intro (aY _ _ _ _) ?_|refine And.intro rfl ?_))).trans (qSL 1 rfl rfl))⟩
    |false=>
     rw[hb]at hHs
     have hst:_=es:=hst.trans (if_neg (by rw[hb];simp))
     (try (conv=>whnf));(repeat ((first|refine qT ?_|refine qF ?_|refine qO ?_|(with_reducible intro z hz);(first|(replace hz:=hz (by omega);subst hz)|subst hz));(try (conv=>whnf))))
     refine Idx.mk k (eiv d) _ rfl (by simp[hd]) rfl ?_
     (try (conv=>whnf));(repeat ((first|refine qT ?_|refine qF ?_|refine qO ?_|(with_reducible intro z hz);(first|(replace hz:=hz (by omega);subst hz)|subst hz));(try (conv=>whnf))))
     refine Idx.mk k (eiv d) _ rfl (by simp[hd]) rfl ?_
     (try (conv=>whnf));(repeat ((first|refine qT ?_|refine qF ?_|refine qO ?_|(with_reducible intro z hz);(first|(replace hz:=hz (by omega);subst hz)|subst hz));(try (conv=>whnf))))
     refine Idx.mk k (eiv d) _ rfl (by simp[hd]) rfl ?_
     (try (conv=>whnf));(repeat ((first|refine qT ?_|refine qF ?_|refine qO ?_|(with_reducible intro z hz);(first|(replace hz:=hz (by omega);subst hz)|subst hz)|(refine ah.mk _ (hC _ _ _ (PCw.of hOf)) (fun js hjs=>?_);subst hjs)|(refine ah.mk _ (hC _ _ _ (PCw.of hHs)) (fun js hjs=>?_);subst hjs));(try (conv=>whnf))))
     exact⟨k+1,by omega,by dsimp only;omega,by
      dsimp only[]
      rw[hst]
      exact (qSL 1 rfl rfl)⟩
   ·rw[decide_eq_false h1,decide_eq_false h2,Bool.or_false,Bool.false_and,if_neg (by simp)]at hst
    (try (conv=>whnf));(repeat ((first|refine qT ?_|refine qF ?_|refine qO ?_|(with_reducible intro z hz);(first|(replace hz:=hz (by omega);subst hz)|subst hz));(try (conv=>whnf))))
    refine Idx.mk k (eiv d) _ rfl (by simp[hd]) rfl ?_
    (try (conv=>whnf));(repeat ((first|refine qT ?_|refine qF ?_|refine qO ?_|(with_reducible intro z hz);(first|(replace hz:=hz (by omega);subst hz)|subst hz));(try (conv=>whnf))))
    refine Idx.mk k (eiv d) _ rfl (by simp[hd]) rfl ?_
    (try (conv=>whnf));(repeat ((first|refine qT ?_|refine qF ?_|refine qO ?_|(with_reducible intro z hz);(first|(replace hz:=hz (by omega);subst hz)|subst hz));(try (conv=>whnf))))
    exact⟨k+1,by omega,by dsimp only;omega,by
     dsimp only[]
     rw[hst]
     exact (qSL 1 rfl rfl)⟩
 |inr hge=>
  obtain rfl:k=D.length:=by omega
  rw[List.take_length]
  (try (conv=>whnf));(repeat ((first|refine qT ?_|refine qF ?_|refine qO ?_|(with_reducible intro z hz);(first|(replace hz:=hz (by omega);subst hz)|subst hz));(try (conv=>whnf))))
  refine bK.mk ((D.filter ob).map eiv) rfl ?_
  exact hfin _ (ay.refl _)
theorem CQ (l:List Gz) (hF:Ii l):PC Tryz.prog aM 10 [.sl 4 (l.map gzv)] [.bool (xR l 30)]:=by
 have hFw:=Ql l 30 (by omega) (by omega) (by have:=hF.1;unfold maxLen;omega) hF.2
 refine PC.ak (T:=cB) aN aU rfl mixed Tryz.func10 rfl rfl (Nat.le_of_ble_eq_true rfl) ?_;intro Γ C WK LP fin h0 hW hC hB hR hLP hfin
 (try (conv=>whnf));(repeat ((first|refine qT ?_|refine qF ?_|refine qO ?_|(with_reducible intro z hz);(first|(replace hz:=hz (by omega);subst hz)|subst hz)|(refine ah.mk _ (hC _ _ _ (PCw.of hFw)) (fun js hjs=>?_);subst hjs));(try (conv=>whnf))))
 exact hfin _ (ay.refl _)
theorem QO (a b:Ei):PC Tryz.prog aM 15 [eiv a,eiv b] [.int .i64 (dJ a b)]:=Nq (enI a) (enI b)
theorem H9 (l:List Gz) (day:Int) (p:Str):(onG l day p).Pairwise fun a b=>dJ a b < 0:=((CV l).filter _).filter _
theorem Dc {l:List Gz} {m:Nat} (h:bH l m) (day:Int) (p:Str):(onG l day p).length≤m:=Nat.le_trans (KL _ _ p day _) h.dI
theorem BQ {l:List Gz} {m:Nat} (h:bH l m) (day:Int) (p:Str):∀e∈onG l day p,CpI e.it:=fun e he=>h.cp e (List.mem_filter.1 (List.mem_filter.1 he).1).1
theorem Uy (l:List Gz) (hF:Ii l) (day:Int) (p:Str) (hp:p.size≤9223372036854775807):PC Tryz.prog aM 4 [.sl 4 (l.map gzv),.int .i64 day,.str p] [.bool true]:=by
 have hA:=qh
 have hFw:=CQ l hF
 cases hb:xR l 30 with
 |false=>
  rw[hb]at hFw
  refine PC.ak (T:=cB) aN aU rfl mixed Tryz.func4 rfl rfl (Nat.le_of_ble_eq_true rfl) ?_;intro Γ C WK LP fin h0 hW hC hB hR hLP hfin
  (try (conv=>whnf));(repeat ((first|refine qT ?_|refine qF ?_|refine qO ?_|(with_reducible intro z hz);(first|(replace hz:=hz (by omega);subst hz)|subst hz)|(refine ah.mk _ (hC _ _ _ (PCw.of hA)) (fun js hjs=>?_);subst hjs)|(refine ah.mk _ (hC _ _ _ (PCw.of hFw)) (fun js hjs=>?_);subst hjs));(try (conv=>whnf))))
  exact hfin _ (ay.refl _)
 |true=>
  rw[hb]at hFw
  have h30:=J5 (m:=30) (by omega) hF.2 hb
  by_cases hp1:p.size≤100
  rotate_left
  ·refine PC.ak (T:=cB) aN aU rfl mixed Tryz.func4 rfl rfl (Nat.le_of_ble_eq_true rfl) ?_;intro Γ C WK LP fin h0 hW hC hB hR hLP hfin
   (try (conv=>whnf));(repeat ((first|refine qT ?_|refine qF ?_|refine qO ?_|(with_reducible intro z hz);(first|(replace hz:=hz (by omega);subst hz)|subst hz)|(refine ah.mk _ (hC _ _ _ (PCw.of hA)) (fun js hjs=>?_);subst hjs)|(refine ah.mk _ (hC _ _ _ (PCw.of hFw)) (fun js hjs=>?_);subst hjs));(try (conv=>whnf))))
   exact hfin _ (ay.refl _)
  have hOn:=Fg (by omega) h30 day p
  have hRo:=TP (by omega) h30 day p
  have hlen:=Dc h30 day p
  have hS:=zF (onG l day p) (onG l day p) (by omega) (by omega) (BQ h30 day p) (BQ h30 day p)
  rw[decide_eq_true rfl]at hS
  have hstr:=H9 l day p
  generalize onG l day p=D at *
  have hmd:(D.map eiv).length=D.length:=List.length_map _
  refine PC.ak (T:=cB) aN aU rfl mixed Tryz.func4 rfl rfl (Nat.le_of_ble_eq_true rfl) ?_;intro Γ C WK LP fin h0 hW hC hB hR hLP hfin
  have h00:Γ.n0=0:=h0
  (try (conv=>whnf));(repeat ((first|refine qT ?_|refine qF ?_|refine qO ?_|(with_reducible intro z hz);(first|(replace hz:=hz (by omega);subst hz)|subst hz)|(refine ah.mk _ (hC _ _ _ (PCw.of hA)) (fun js hjs=>?_);subst hjs)|(refine ah.mk _ (hC _ _ _ (PCw.of hFw)) (fun js hjs=>?_);subst hjs)|(refine ah.mk _ (hC _ _ _ (PCw.of hOn)) (fun js hjs=>?_);subst hjs));(try (conv=>whnf))))
  refine hLP _ _ _ Nat (fun k=>⟨[(0,.imm (.sl 4 (l.map gzv))),(1,.imm (.int .i64 day)),(2,.imm (.str p)),(7,.imm (.sl 28 (D.map eiv))),(8,.imm (.int .i64 (k+1:Nat)))],[]⟩) (fun k=>k+1≤D.length∨k=0) (fun k=>D.length - k) 0 (Or.inr rfl) ((qSL 0 rfl rfl (hE:=by (repeat ((conv=>whnf);first|exact trivial|refine And.intro (by first|exact aj.any|exact aj.eq (by with_reducible rfl) rfl|exact aj.eq (congrArg (fun z=>PV.imm (IV.int IntKind.i64 z)) (by first|omega|(simp[hmd];done)|(simp[hmd];omega))) rfl|exact aj.eq (by first|(simp[hmd];done)|fail) rfl|exact aj.eq rfl rfl|exact aj.le rfl (ILe.nil _)) ?_))))) ?_
  intro k hk
  have hho:=Nat.lt_or_ge (k+1) D.length
  cases hho with
  |inl hlt=>
   obtain⟨x,hx⟩:∃x,D[k]?=some x:=⟨D[k],List.getElem?_eq_getElem (by omega)⟩
   obtain⟨y,hy⟩:∃y,D[k+1]?=some y:=⟨D[k+1],List.getElem?_eq_getElem hlt⟩
   have hL:=QO x y
   have hlt0:=LV hstr hx hy
   rw[show eiv x=IV.agg _ from rfl,show eiv y=IV.agg _ from rfl]at hL
   (try (conv=>whnf));(repeat ((first|refine qT ?_|refine qF ?_|refine qO ?_|(with_reducible intro z hz);(first|(replace hz:=hz (by omega);subst hz)|subst hz));(try (conv=>whnf))))
   refine Idx.mk k (eiv x) _ (by omega) (by simp[hx]) rfl ?_
   (try (conv=>whnf));(repeat ((first|refine qT ?_|refine qF ?_|refine qO ?_|(with_reducible intro z hz);(first|(replace hz:=hz (by omega);subst hz)|subst hz));(try (conv=>whnf))))
   refine Idx.mk (k+1) (eiv y) _ rfl (by simp[hy]) rfl ?_
   (try (conv=>whnf));(repeat ((first|refine qT ?_|refine qF ?_|refine qO ?_|(with_reducible intro z hz);(first|(replace hz:=hz (by omega);subst hz)|subst hz)|(refine ah.mk _ (hC _ _ _ (PCw.of hL)) (fun js hjs=>?_);subst hjs));(try (conv=>whnf))))
   exact⟨k+1,by omega,by dsimp only;omega,(qSL 0 rfl rfl)⟩
  |inr hge=>
   (try (conv=>whnf));(repeat ((first|refine qT ?_|refine qF ?_|refine qO ?_|(with_reducible intro z hz);(first|(replace hz:=hz (by omega);subst hz)|subst hz)|(refine ah.mk _ (hC _ _ _ (PCw.of hRo)) (fun js hjs=>?_);subst hjs)|(refine ah.mk _ (hC _ _ _ (PCw.of hS)) (fun js hjs=>?_);subst hjs));(try (conv=>whnf))))
   exact hfin _ (ay.refl _)
theorem UK (l:List Gz) (hF:Ii l) (day:Int) (p:Str) (hp:p.size≤maxLen):PC Tryz.prog aM 4 [.sl 4 (l.map gzv),.int .i64 day,.str p] [.bool true]:=Uy l hF day p (by unfold maxLen at hp;omega)
end F
end Go.Proofs.YtfjibfdelbodjaaGreat.Po
