/-
  In force: lists compared; the law's example. In force: the law's example, walked. In force: the reference's start, Of, Changes, Has, On, Spans.
-/
import Derived.Test.YtfjibfdelbodjaaGreatFc
namespace Go.Proofs.YtfjibfdelbodjaaGreat.Po
open Go Go.Pv Go.RowKit
set_option linter.unusedSimpArgs false
open Lab Lcs Go.Proofs.YtfjibfdelbodjaaGreat Go.Proofs.YtfjibfdelbodjaaGreat.Pu
set_option maxRecDepth 10000
set_option maxHeartbeats 32000000
namespace F
theorem Ji (a b:List Int) (_:a.length≤1000000000) (hb:b.length≤1000000000):PC Tryz.prog aM 19 [.sl 1 (a.map kI),.sl 1 (b.map kI)] [.bool (decide (a=b))]:=by
 have hal:(a.map kI).length=a.length:=List.length_map _
 have hbl:(b.map kI).length=b.length:=List.length_map _
 by_cases hl:a.length=b.length
 rotate_left
 ·rw[decide_eq_false (fun e=>hl (by rw[e]))]
  refine PC.aj (T:=dZ) aS bB rfl mixed Tryz.func19 rfl rfl (Nat.le_of_ble_eq_true rfl) ?_;intro Γ C WK LP fin h0 hW hC hB hR hLP hfin
  (try (conv=>whnf));(repeat ((first|refine qT ?_|refine qF ?_|refine qO ?_|(with_reducible intro z hz);(first|(replace hz:=hz (by omega);subst hz)|subst hz));(try (conv=>whnf))))
  exact hfin _ (aA.refl _)
 refine PC.aj (T:=dZ) aS bB rfl mixed Tryz.func19 rfl rfl (Nat.le_of_ble_eq_true rfl) ?_;intro Γ C WK LP fin h0 hW hC hB hR hLP hfin
 (try (conv=>whnf));(repeat ((first|refine qT ?_|refine qF ?_|refine qO ?_|(with_reducible intro z hz);(first|(replace hz:=hz (by omega);subst hz)|subst hz));(try (conv=>whnf))))
 refine hLP _ _ _ Nat (fun k=>⟨[(0,.imm (.sl 1 (a.map kI))),(1,.imm (.sl 1 (b.map kI))),(5,.imm (.int .i64 (k:Nat)))],[]⟩) (fun k=>k≤a.length∧a.take k=b.take k) (fun k=>a.length - k) 0 ⟨Nat.zero_le _,by simp⟩ (qSL 0 rfl rfl (hE:=by (repeat ((conv=>whnf);first|exact trivial|refine And.intro (by first|exact av.any|exact av.eq (by with_reducible rfl) rfl|exact av.eq (congrArg (fun z=>PV.imm (IV.int IntKind.i64 z)) (by first|omega|(simp[hal];done)|(simp[hal];omega))) rfl|exact av.eq (by first|(simp[hal];done)|fail) rfl|exact av.eq rfl rfl|exact av.le rfl (ILe.nil _)) ?_)))) ?_
 rintro k ⟨hk,he⟩
 have hho:=Nat.lt_or_ge k a.length
 cases hho with
 |inl hlt=>
  obtain⟨x,hx⟩:∃x,a[k]?=some x:=⟨a[k],List.getElem?_eq_getElem hlt⟩
  obtain⟨y,hy⟩:∃y,b[k]?=some y:=⟨b[k],List.getElem?_eq_getElem (by omega)⟩
  by_cases hxy:x=y
  ·(try (conv=>whnf));(repeat ((first|refine qT ?_|refine qF ?_|refine qO ?_|(with_reducible intro z hz);(first|(replace hz:=hz (by omega);subst hz)|subst hz));(try (conv=>whnf))))
   refine Idx.mk k (kI x) _ rfl (by simp[hx]) rfl ?_
   (try (conv=>whnf));(repeat ((first|refine qT ?_|refine qF ?_|refine qO ?_|(with_reducible intro z hz);(first|(replace hz:=hz (by omega);subst hz)|subst hz));(try (conv=>whnf))))
   refine Idx.mk k (kI y) _ rfl (by simp[hy]) rfl ?_
   (try (conv=>whnf));(repeat ((first|refine qT ?_|refine qF ?_|refine qO ?_|(with_reducible intro z hz);(first|(replace hz:=hz (by omega);subst hz)|subst hz));(try (conv=>whnf))))
   exact⟨k+1,⟨by omega,by rw[take_at hx,take_at hy,he,hxy]⟩,by dsimp only;omega,(qSL 0 rfl rfl)⟩
  ·rw[decide_eq_false (mg hx hy hxy)]at hfin
   (try (conv=>whnf));(repeat ((first|refine qT ?_|refine qF ?_|refine qO ?_|(with_reducible intro z hz);(first|(replace hz:=hz (by omega);subst hz)|subst hz));(try (conv=>whnf))))
   refine Idx.mk k (kI x) _ rfl (by simp[hx]) rfl ?_
   (try (conv=>whnf));(repeat ((first|refine qT ?_|refine qF ?_|refine qO ?_|(with_reducible intro z hz);(first|(replace hz:=hz (by omega);subst hz)|subst hz));(try (conv=>whnf))))
   refine Idx.mk k (kI y) _ rfl (by simp[hy]) rfl ?_
   (try (conv=>whnf));(repeat ((first|refine qT ?_|refine qF ?_|refine qO ?_|(with_reducible intro z hz);(first|(replace hz:=hz (by omega);subst hz)|subst hz));(try (conv=>whnf))))
   exact hfin _ (aA.refl _)
 |inr hge=>
  obtain rfl:k=a.length:=by omega
  rw[List.take_length,hl,List.take_length]at he
  rw[decide_eq_true he]at hfin
  (try (conv=>whnf));(repeat ((first|refine qT ?_|refine qF ?_|refine qO ?_|(with_reducible intro z hz);(first|(replace hz:=hz (by omega);subst hz)|subst hz));(try (conv=>whnf))))
  exact hfin _ (aA.refl _)
noncomputable def SQ (fr:Nat→List Nat):Tb:=⟨Pv.look tdl,QN,fun _=>none,fr,fun _=>false,nwF⟩
theorem QC {fr:Nat→List Nat}:∀t d,(SQ fr).td t=some d→aJ Tryz.prog t=some d:=Pv.look_ok lY
abbrev itL (k a i d:Int):IV:=.agg [.int .i64 k,.nil,.nil,.int .i64 0,.int .i64 0,.int .i64 0,.int .i64 0,.int .i64 0,.int .i64 0,.str ⟨#[]⟩,.nil,.nil,.nil,.nil,.nil,.str ⟨#[]⟩,.str ⟨#[]⟩,.int .i64 0,.int .i64 0,.str ⟨#[]⟩,.int .i64 a,.int .i64 i,.int .i64 d,.str ⟨#[]⟩,.nil]
def itX (k a i d:Int):It:=.mk k [] [] 0 0 ⟨⟨0,0,0⟩,0,z0,[],[],[]⟩ [] [] z0 z0 0 0 z0 a i d z0 []
abbrev acL (n d k s:Int) (x:IV):IV:=.agg [.int .i64 n,.str ⟨#[]⟩,.int .i64 d,.int .i64 k,.int .i64 s,.str ⟨#[]⟩,.sl 25 [x]]
abbrev gzL:IV:=.agg [.int .i64 0,.int .i64 0,.str ⟨#[]⟩,.sl 7 [acL 1 0 1 10 (itL 1 0 0 0),acL 2 1 0 0 (itL 8 1 (-1) 20)]]
def aE:Ac:=⟨1,z0,0,1,10,z0,[itX 1 0 0 0]⟩
def bE:Ac:=⟨2,z0,1,0,0,z0,[itX 8 1 (-1) 20]⟩
def gE:Gz:=⟨0,0,z0,[aE,bE]⟩
def d0:Ei:=⟨1,0,0,itX 1 0 0 0⟩
def d1:Ei:=⟨2,0,1,itX 8 1 (-1) 20⟩
theorem OP (k a i d:Int):ILe (itL k a i d) (itv (itX k a i d)):=by
 rw[aR]
 refine aA.agg ?_
 repeat (first|exact aA.refl _|refine aA.cons (by first|exact ILe.refl _|exact ILe.nil _) ?_)
theorem Il:aA [.sl 4 [gzL]] [.sl 4 ([gE].map gzv)]:=by
 have hA:∀(n d k s:Int) (x:IV) (y:It),ILe x (itv y)→ILe (acL n d k s x) (acv ⟨n,z0,d,k,s,z0,[y]⟩):=fun n d k s x y h=>
  aA.agg (.cons (.refl _) (.cons (.refl _) (.cons (.refl _) (.cons (.refl _) (.cons (.refl _) (.cons (.refl _) (.cons (aA.sl (.cons h (aA.refl _))) (aA.refl _))))))))
 refine .cons (aA.sl (.cons (aA.agg (.cons (.refl _) (.cons (.refl _) (.cons (.refl _) (.cons (aA.sl (.cons (hA _ _ _ _ _ _ (OP _ _ _ _)) (.cons (hA _ _ _ _ _ _ (OP _ _ _ _)) (aA.refl _)))) (aA.refl _)))))) (aA.refl _))) (aA.refl _)
theorem RO (k a i d:Int):vR (itX k a i d):=by
 refine .mk _ (fun x hx=>?_) ⟨?_,?_,?_,?_,?_⟩ (fun y hy=>by cases hy)
 ·have:x=⟨⟨0,0,0⟩,0,z0,[],[],[]⟩:=by
   have hx:x∈Ut.all ⟨⟨0,0,0⟩,0,z0,[],[],[]⟩:=hx
   rw[Ut.all_eq]at hx
   rcases List.mem_cons.1 hx with hx|hx
   ·exact hx
   ·have hx:x∈([]:List Ut):=hx
    cases hx
  subst this
  exact⟨Nat.zero_le _,Nat.zero_le _,Nat.zero_le _⟩
 all_goals exact Nat.zero_le _
theorem G8:bO [gE] 30:=Rc (by omega) (fun g hg=>by
 obtain rfl:=List.mem_singleton.1 hg
 refine⟨Nat.zero_le _,by decide,fun a ha=>?_⟩
 have ha:a∈[aE,bE]:=ha
 simp only[List.mem_cons,List.not_mem_nil,or_false]at ha
 rcases ha with rfl|rfl<;>exact⟨Nat.zero_le _,Nat.zero_le _,by decide,fun x hx=>by
  obtain rfl:=List.mem_singleton.1 hx
  exact RO _ _ _ _⟩) (by kernel_rfl)
theorem JI:bn (allA [gE])=[aE,bE]:=by kernel_rfl
theorem Fg:aW [gE]=[d0,d1]:=by kernel_rfl
theorem JD:cK [aE,bE] [d0,d1] d0=[(10,20)]:=by
 unfold cK Pe.bC
 rw[if_pos (by decide)]
 refine (Rm.iD (R:=[(10,20)]) ⟨by unfold Spans.gJ;refine⟨by decide,by decide,by decide,trivial⟩,fun d h0 h1=>?_⟩).symm
 have e:Pe.jF (Pe.pE (Pe.stD (Pe.uK (stA [aE,bE] d0.act) (enP d0).it.st) (List.map enP [d0,d1]))) (enP d0) (List.map enP [d0,d1]) d=(Spans.aK [(10,1048577)] d&&Spans.aK [(0,20)] d):=rfl
 rw[e,Bool.eq_iff_iff]
 simp only[Spans.aK,Bool.or_false,Bool.and_eq_true,decide_eq_true_eq]
 omega
theorem SA:brk [gE]=[0,10,20]:=by
 unfold brk
 rw[JI,Fg]
 have h1:bpL [aE,bE] [d0,d1] [d0,d1]=[0,10,20]:=by
  show 0::([d0].flatMap fun d=>bnd (cK [aE,bE] [d0,d1] d))=_
  rw[List.flatMap_cons,List.flatMap_nil,JD]
  rfl
 rw[h1]
 have h2:BQ [0,10,20]=[0,10,20]:=lM (List.mergeSort_perm ..) (by simp) (tV _)
 rw[h2]
 rfl
theorem Rj (day:Int):onG [gE] day z0=if Rm.eU [(10,20)] day=true then [d0] else []:=by
 unfold onG onL
 rw[JI,Fg]
 show [d0].filter (onB [aE,bE] [d0,d1] z0 day)=_
 have h1:onB [aE,bE] [d0,d1] z0 day d0=Rm.eU [(10,20)] day:=by
  unfold onB
  rw[JD]
  rfl
 rw[List.filter_cons,h1]
 rfl
end F
end Go.Proofs.YtfjibfdelbodjaaGreat.Po
namespace Go.Proofs.YtfjibfdelbodjaaGreat.Po
open Go Go.Pv Go.RowKit
set_option linter.unusedSimpArgs false
open Lab Lcs Go.Proofs.YtfjibfdelbodjaaGreat Go.Proofs.YtfjibfdelbodjaaGreat.Pu
set_option maxRecDepth 10000
set_option maxHeartbeats 32000000
namespace F
theorem IW:PC Tryz.prog aM 9 [] [.bool true]:=by
 have hBk:=Pe.PC.arg (II (by omega) G8) Il
 rw[SA]at hBk
 have hO9:=Pe.PC.arg (Jv (by omega) G8 9 z0) (.cons (.refl _) (.cons (.refl _) Il))
 have hO10:=Pe.PC.arg (Jv (by omega) G8 10 z0) (.cons (.refl _) (.cons (.refl _) Il))
 rw[Rj,if_neg (by decide)]at hO9
 rw[Rj,if_pos (by decide)]at hO10
 have hIn:=Ji [0,10,20] [0,10,20] (by decide) (by decide)
 rw[decide_eq_true rfl]at hIn
 refine PC.aj (T:=(SQ fun r=>match r with|3=>[0,2]|4=>[4]|_=>[])) aS QC rfl mixed Tryz.func9 rfl rfl (Nat.le_of_ble_eq_true rfl) ?_;intro Γ C WK LP fin h0 hW hC hB hR hLP hfin
 (try (conv=>whnf));(repeat ((first|refine qT ?_|refine qF ?_|refine qO ?_|(with_reducible intro z hz);(first|(replace hz:=hz (by omega);subst hz)|subst hz));(try (conv=>whnf))))
 refine bN.mk [itL 1 0 0 0] rfl ?_
 (try (conv=>whnf));(repeat ((first|refine qT ?_|refine qF ?_|refine qO ?_|(with_reducible intro z hz);(first|(replace hz:=hz (by omega);subst hz)|subst hz));(try (conv=>whnf))))
 refine bN.mk [itL 8 1 (-1) 20] rfl ?_
 (try (conv=>whnf));(repeat ((first|refine qT ?_|refine qF ?_|refine qO ?_|(with_reducible intro z hz);(first|(replace hz:=hz (by omega);subst hz)|subst hz));(try (conv=>whnf))))
 refine bN.mk [acL 1 0 1 10 (itL 1 0 0 0),acL 2 1 0 0 (itL 8 1 (-1) 20)] rfl ?_
 (try (conv=>whnf));(repeat ((first|refine qT ?_|refine qF ?_|refine qO ?_|(with_reducible intro z hz);(first|(replace hz:=hz (by omega);subst hz)|subst hz));(try (conv=>whnf))))
 refine bN.mk [gzL] rfl ?_
 (try (conv=>whnf));(repeat ((first|refine qT ?_|refine qF ?_|refine qO ?_|(with_reducible intro z hz);(first|(replace hz:=hz (by omega);subst hz)|subst hz)|(refine ah.mk _ (hC _ _ _ (PCw.of hBk)) (fun js hjs=>?_);subst hjs));(try (conv=>whnf))))
 refine bN.mk [kI 0,kI 10,kI 20] rfl ?_
 (try (conv=>whnf));(repeat ((first|refine qT ?_|refine qF ?_|refine qO ?_|(with_reducible intro z hz);(first|(replace hz:=hz (by omega);subst hz)|subst hz)|(refine ah.mk _ (hC _ _ _ (PCw.of hIn)) (fun js hjs=>?_);subst hjs));(try (conv=>whnf))))
 refine bN.mk [gzL] rfl ?_
 (try (conv=>whnf));(repeat ((first|refine qT ?_|refine qF ?_|refine qO ?_|(with_reducible intro z hz);(first|(replace hz:=hz (by omega);subst hz)|subst hz)|(refine ah.mk _ (hC _ _ _ (PCw.of hO9)) (fun js hjs=>?_);subst hjs));(try (conv=>whnf))))
 refine bN.mk [gzL] rfl ?_
 (try (conv=>whnf));(repeat ((first|refine qT ?_|refine qF ?_|refine qO ?_|(with_reducible intro z hz);(first|(replace hz:=hz (by omega);subst hz)|subst hz)|(refine ah.mk _ (hC _ _ _ (PCw.of hO10)) (fun js hjs=>?_);subst hjs));(try (conv=>whnf))))
 exact hfin _ (aA.refl _)
end F
end Go.Proofs.YtfjibfdelbodjaaGreat.Po
namespace Go.Proofs.YtfjibfdelbodjaaGreat.Po
open Go Go.Pv Go.RowKit
set_option linter.unusedSimpArgs false
open Lab Lcs Go.Proofs.YtfjibfdelbodjaaGreat Go.Proofs.YtfjibfdelbodjaaGreat.Pu
set_option maxRecDepth 10000
set_option maxHeartbeats 32000000
namespace F
theorem J9 {α:Type} {p:α→Bool}:∀{l:List α} {k:Nat} {a:α},l[k]?=some a→p a=true→(∀b∈l.take k,p b=false)→l.find? p=some a
 |[],_,_,h,_,_=>by simp at h
 |b::l,0,a,h,hp,_=>by
  simp only[List.getElem?_cons_zero,Option.some.injEq]at h
  subst h
  rw[List.find?_cons,hp]
 |b::l,k+1,a,h,hp,hn=>by
  simp only[List.getElem?_cons_succ]at h
  rw[List.find?_cons,hn b (by simp)]
  exact J9 h hp fun c hc=>hn c (by simp[hc])
theorem Oj {l:List Gz} {m:Nat} (h30:bO l m) (n:Int):PC Tryz.prog aM 64 [.int .i64 n,.sl 4 (l.map gzv)] [Pe.stv (stA (bn (allA l)) n)]:=by
 have hAc:=Jg l (by have:=h30.len;omega) (fun g hg=>by have:=h30.acts g hg;omega)
 have hAl:=Df h30
 generalize bn (allA l)=A at *
 have hma:(A.map acv).length=A.length:=List.length_map _
 refine PC.aj (T:=dZ) aS bB rfl mixed Tryz.func64 rfl rfl (Nat.le_of_ble_eq_true rfl) ?_;intro Γ C WK LP fin h0 hW hC hB hR hLP hfin
 have h00:Γ.n0=0:=h0
 (try (conv=>whnf));(repeat ((first|refine qT ?_|refine qF ?_|refine qO ?_|(with_reducible intro z hz);(first|(replace hz:=hz (by omega);subst hz)|subst hz)|(refine ah.mk _ (hC _ _ _ (PCw.of hAc)) (fun js hjs=>?_);subst hjs));(try (conv=>whnf))))
 refine hLP _ _ _ Nat (fun k=>⟨[(0,.imm (.int .i64 n)),(4,.ptr 0 1 0),(5,.imm (.sl 7 (A.map acv))),(6,.imm (.int .i64 (k:Nat)))],[.box 1 [.imm (.int .i64 0),.imm (.int .i64 0),.imm (.str ⟨#[]⟩)]]⟩) (fun k=>k≤A.length∧∀b∈A.take k,decide (b.num=n)=false) (fun k=>A.length - k) 0 ⟨Nat.zero_le _,by simp⟩ ((qSL 1 rfl rfl (hE:=by (repeat ((conv=>whnf);first|exact trivial|refine And.intro (by first|exact av.any|exact av.eq (by with_reducible rfl) rfl|exact av.eq (congrArg (fun z=>PV.imm (IV.int IntKind.i64 z)) (by first|omega|(simp[hma];done)|(simp[hma];omega))) rfl|exact av.eq (by first|(simp[hma];done)|fail) rfl|exact av.eq rfl rfl|exact av.le rfl (ILe.nil _)) ?_))))) ?_
 rintro k ⟨hk,hno⟩
 have hho:=Nat.lt_or_ge k A.length
 cases hho with
 |inl hlt=>
  obtain⟨a,ha⟩:∃a,A[k]?=some a:=⟨A[k],List.getElem?_eq_getElem hlt⟩
  by_cases hn:a.num=n
  ·have hst:stA A n=⟨a.sk,a.sd,a.se⟩:=by
    unfold stA
    rw[J9 ha (decide_eq_true hn) hno]
    rfl
   rw[hst]at hfin
   unfold Pe.stv at hfin
   (try (conv=>whnf));(repeat ((first|refine qT ?_|refine qF ?_|refine qO ?_|(with_reducible intro z hz);(first|(replace hz:=hz (by omega);subst hz)|subst hz));(try (conv=>whnf))))
   refine Idx.mk k (acv a) _ rfl (by simp[ha]) rfl ?_
   (try (conv=>whnf));(repeat ((first|refine qT ?_|refine qF ?_|refine qO ?_|(with_reducible intro z hz);(first|(replace hz:=hz (by omega);subst hz)|subst hz));(try (conv=>whnf))))
   refine Idx.mk k (acv a) _ rfl (by simp[ha]) rfl ?_
   (try (conv=>whnf));(repeat ((first|refine qT ?_|refine qF ?_|refine qO ?_|(with_reducible intro z hz);(first|(replace hz:=hz (by omega);subst hz)|subst hz));(try (conv=>whnf))))
   exact hfin _ (aA.refl _)
  ·(try (conv=>whnf));(repeat ((first|refine qT ?_|refine qF ?_|refine qO ?_|(with_reducible intro z hz);(first|(replace hz:=hz (by omega);subst hz)|subst hz));(try (conv=>whnf))))
   refine Idx.mk k (acv a) _ rfl (by simp[ha]) rfl ?_
   (try (conv=>whnf));(repeat ((first|refine qT ?_|refine qF ?_|refine qO ?_|(with_reducible intro z hz);(first|(replace hz:=hz (by omega);subst hz)|subst hz));(try (conv=>whnf))))
   exact⟨k+1,⟨by omega,fun b hb=>by
    rw[take_at ha]at hb
    rcases List.mem_append.1 hb with hb|hb
    ·exact hno b hb
    ·obtain rfl:=List.mem_singleton.1 hb;exact decide_eq_false hn⟩,by dsimp only;omega,(qSL 1 rfl rfl)⟩
 |inr hge=>
  obtain rfl:k=A.length:=by omega
  rw[List.take_length]at hno
  have hst:stA A n=⟨0,0,⟨#[]⟩⟩:=by
   unfold stA
   rw[List.find?_eq_none.2 (fun b hb=>by rw[hno b hb];simp)]
   rfl
  rw[hst]at hfin
  unfold Pe.stv at hfin
  (try (conv=>whnf));(repeat ((first|refine qT ?_|refine qF ?_|refine qO ?_|(with_reducible intro z hz);(first|(replace hz:=hz (by omega);subst hz)|subst hz));(try (conv=>whnf))))
  exact hfin _ (aA.refl _)
noncomputable def jP (l:List Gz) (d:Ei):List Spans.Sp:=cK (bn (allA l)) (aW l) d
theorem Nz {l:List Gz} {m:Nat} (hm:m≤300) (h30:bO l m) (d:Ei):PC Tryz.prog aM 37 [eiv d,.sl 4 (l.map gzv)] [.sl 2 ((jP l d).map Pe.spv)]:=by
 have hSt:=Oj h30 d.act
 have hDe:=h30.aW (by omega)
 have hDl:=h30.jI
 have hSp:=Sw (stA (bn (allA l)) d.act) d (aW l) (by omega)
 unfold jP cK
 generalize Pe.bC (stA (bn (allA l)) d.act) (enP d) ((aW l).map enP)=R at *
 generalize stA (bn (allA l)) d.act=s0 at *
 generalize aW l=D at *
 unfold Pe.stv at hSt hSp
 rw[show eiv d=IV.agg _ from rfl]at hSp ⊢
 refine PC.aj (T:=dZ) aS bB rfl mixed Tryz.func37 rfl rfl (Nat.le_of_ble_eq_true rfl) ?_;intro Γ C WK LP fin h0 hW hC hB hR hLP hfin
 have h00:Γ.n0=0:=h0
 (try (conv=>whnf));(repeat ((first|refine qT ?_|refine qF ?_|refine qO ?_|(with_reducible intro z hz);(first|(replace hz:=hz (by omega);subst hz)|subst hz)|(refine ah.mk _ (hC _ _ _ (PCw.of hSt)) (fun js hjs=>?_);subst hjs)|(refine ah.mk _ (hC _ _ _ (PCw.of hDe)) (fun js hjs=>?_);subst hjs)|(refine ah.mk _ (hC _ _ _ (PCw.of hSp)) (fun js hjs=>?_);subst hjs));(try (conv=>whnf))))
 exact hfin _ (aA.refl _)
theorem Iw {l:List Gz} {m:Nat} (hm:m≤300) (h30:bO l m):PC Tryz.prog aM 29 [.sl 4 (l.map gzv)] [.sl 28 ((amL (aW l)).map eiv)]:=by
 have hDe:=h30.aW (by omega)
 have hDl:=h30.jI
 generalize aW l=D at *
 have hmd:(D.map eiv).length=D.length:=List.length_map _
 refine PC.aj (T:=dZ) aS bB rfl mixed Tryz.func29 rfl rfl (Nat.le_of_ble_eq_true rfl) ?_;intro Γ C WK LP fin h0 hW hC hB hR hLP hfin
 have h00:Γ.n0=0:=h0
 (try (conv=>whnf));(repeat ((first|refine qT ?_|refine qF ?_|refine qO ?_|(with_reducible intro z hz);(first|(replace hz:=hz (by omega);subst hz)|subst hz)|(refine ah.mk _ (hC _ _ _ (PCw.of hDe)) (fun js hjs=>?_);subst hjs));(try (conv=>whnf))))
 refine hLP _ _ _ Nat (fun k=>⟨[(3,.row 0 1),(4,.imm (.sl 28 (D.map eiv))),(5,.imm (.int .i64 (k:Nat)))],[rwE 1 (amL (D.take k))]⟩) (fun k=>k≤D.length) (fun k=>D.length - k) 0 (Nat.zero_le _) ((aC.row 0 ((((amL (D.take 0)).map eiv).map .imm)) rfl (by rfl)).trans (qSL 1 rfl rfl (hE:=by (repeat ((conv=>whnf);first|exact trivial|refine And.intro (by first|exact av.any|exact av.eq (by with_reducible rfl) rfl|exact av.eq (congrArg (fun z=>PV.imm (IV.int IntKind.i64 z)) (by first|omega|(simp[hmd];done)|(simp[hmd];omega))) rfl|exact av.eq (by first|(simp[hmd];done)|fail) rfl|exact av.eq rfl rfl|exact av.le rfl (ILe.nil _)) ?_))))) ?_
 intro k hk
 have hho:=Nat.lt_or_ge k D.length
 cases hho with
 |inl hlt=>
  obtain⟨d,hd⟩:∃d,D[k]?=some d:=⟨D[k],List.getElem?_eq_getElem hlt⟩
  have hst:=xJ hd
  have hel:(amL (D.take k)).length≤k:=Nat.le_trans (List.length_filter_le _ _) (by rw[List.length_take];omega)
  generalize amL (D.take k)=es at *
  have hlm:((es.map eiv).map PV.imm).length=es.length:=by simp
  have hCh:=sO d.it.kind
  cases hc:chB d.it.kind with
  |true=>
   rw[hc]at hCh
   rw[hc,if_pos rfl]at hst
   (try (conv=>whnf));(repeat ((first|refine qT ?_|refine qF ?_|refine qO ?_|(with_reducible intro z hz);(first|(replace hz:=hz (by omega);subst hz)|subst hz));(try (conv=>whnf))))
   refine Idx.mk k (eiv d) _ rfl (by simp[hd]) rfl ?_
   (try (conv=>whnf));(repeat ((first|refine qT ?_|refine qF ?_|refine qO ?_|(with_reducible intro z hz);(first|(replace hz:=hz (by omega);subst hz)|subst hz)|(refine ah.mk _ (hC _ _ _ (PCw.of hCh)) (fun js hjs=>?_);subst hjs));(try (conv=>whnf))))
   refine Idx.mk k (eiv d) _ rfl (by simp[hd]) rfl ?_
   (try (conv=>whnf));(repeat ((first|refine qT ?_|refine qF ?_|refine qO ?_|(with_reducible intro z hz);(first|(replace hz:=hz (by omega);subst hz)|subst hz));(try (conv=>whnf))))
   exact⟨k+1,by omega,by dsimp only;omega,by
    dsimp only[]
    rw[hst]
    exact (aC.row 0 ((((es++[d]).map eiv).map .imm)) rfl (by simp[eiv];rfl)).trans ((aC.renew 0 1 rfl (by first|omega|(intro _;rw[hk0 _ _ rfl];exact Nat.le_of_ble_eq_true rfl)) (by repeat (first|exact trivial|refine And.intro (bA _ _ _ _) ?_|refine And.intro rfl ?_))).trans (qSL 1 rfl rfl))⟩
  |false=>
   rw[hc]at hCh
   rw[hc,if_neg (by simp)]at hst
   (try (conv=>whnf));(repeat ((first|refine qT ?_|refine qF ?_|refine qO ?_|(with_reducible intro z hz);(first|(replace hz:=hz (by omega);subst hz)|subst hz));(try (conv=>whnf))))
   refine Idx.mk k (eiv d) _ rfl (by simp[hd]) rfl ?_
   (try (conv=>whnf));(repeat ((first|refine qT ?_|refine qF ?_|refine qO ?_|(with_reducible intro z hz);(first|(replace hz:=hz (by omega);subst hz)|subst hz)|(refine ah.mk _ (hC _ _ _ (PCw.of hCh)) (fun js hjs=>?_);subst hjs));(try (conv=>whnf))))
   exact⟨k+1,by omega,by dsimp only;omega,by
    dsimp only[]
    rw[hst]
    exact (qSL 1 rfl rfl)⟩
 |inr hge=>
  obtain rfl:k=D.length:=by omega
  rw[List.take_length]
  (try (conv=>whnf));(repeat ((first|refine qT ?_|refine qF ?_|refine qO ?_|(with_reducible intro z hz);(first|(replace hz:=hz (by omega);subst hz)|subst hz));(try (conv=>whnf))))
  refine bN.mk ((amL D).map eiv) rfl ?_
  exact hfin _ (aA.refl _)
theorem Ip {L:List Spans.Sp} {d:Int}:Spans.aK L d=L.any fun s=>decide (s.1≤d∧d < s.2):=by
 induction L with
 |nil=>rfl
 |cons s L ih=>rw[Spans.aK,ih];rfl
theorem mh {L:List Spans.Sp} (h:Can L) (d:Int):Rm.eU L d=Spans.aK L d:=by
 unfold Rm.eU
 by_cases hd:0≤d∧d≤1048576
 ·rw[decide_eq_true hd,Bool.true_and]
 ·rw[decide_eq_false hd,Bool.false_and]
  cases hm:Spans.aK L d with
  |false=>rfl
  |true=>
   exfalso
   rw[Ip,List.any_eq_true]at hm
   obtain⟨s,hs,hsd⟩:=hm
   have hsd:=of_decide_eq_true hsd
   have key:∀{L:List Spans.Sp} {lo:Int},Spans.gJ lo L→∀s∈L,lo < s.1∧s.2≤1048577:=by
    intro L
    induction L with
    |nil=>intro lo _ s hs;cases hs
    |cons x L ih=>
     intro lo h s hs
     obtain⟨g1,g2,g3,g4⟩:=h
     rcases List.mem_cons.1 hs with rfl|hs
     ·exact⟨g1,g3⟩
     ·have:=ih g4 s hs
      omega
   have:=key h s hs
   omega
end F
end Go.Proofs.YtfjibfdelbodjaaGreat.Po
