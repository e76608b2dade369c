/-
  The initial set of days, by the program and by the reference; the law of it. The days in force, by the program and by the reference. The days in force, by the program.
-/
import Derived.Test.YtfjibfdelbodjaaGreatNc
import Derived.Test.YtfjibfdelbodjaaGreatNa
namespace Go.Proofs.YtfjibfdelbodjaaGreat.Pe
open Go Go.Pv Go.RowKit
set_option linter.unusedSimpArgs false
open Spans Rm
set_option maxRecDepth 10000
set_option maxHeartbeats 16000000
theorem zS (t:Int):PC Tryz.prog aM 169 [.nil,.int .i64 t] [.sl 2 ((canon (pE (some t))).map spv)]:=by
 have h:=PC.arg (args:=[.nil,.int .i64 t]) (Ay [] t (by simp)) (.cons (ILe.nil _) (.refl _))
 rw[show canon (fun d=>aK [] d||aK [(t,1048577)] d)=canon (pE (some t)) from gX fun d _ _=>by simp[pE,aK]]at h
 exact h
theorem GX (s:St) (l:List En) (hl:l.length≤1000000000):PC Tryz.prog aM 128 [stv s,.sl 28 (l.map cu)] [.sl 2 ((canon (pE (stD s l))).map spv)]:=by
 have hE:=D8 s.e l hl
 unfold stD stv
 by_cases h1:s.k=1
 ·rw[if_pos h1]
  have hX:=zS s.d
  refine PC.aj (T:=tb0) ay aH rfl mixed Tryz.func128 rfl rfl (Nat.le_of_ble_eq_true rfl) ?_;intro Γ C WK LP fin h0 hW hC hB hR hLP hfin
  (try (conv=>whnf));(repeat ((first|refine qT ?_|refine qF ?_|refine qO ?_|(with_reducible intro z hz);(first|(replace hz:=hz (by omega);subst hz)|subst hz)|(refine ah.mk _ (hC _ _ _ (PCw.of hX)) (fun js hjs=>?_);subst hjs));(try (conv=>whnf))))
  exact hfin _ (aA.refl _)
 rw[if_neg h1]
 by_cases h3:s.k=3
 ·rw[if_pos h3]
  cases hq:evD s.e l with
  |some t=>
   rw[hq]at hE
   have hX:=zS t
   refine PC.aj (T:=tb0) ay aH rfl mixed Tryz.func128 rfl rfl (Nat.le_of_ble_eq_true rfl) ?_;intro Γ C WK LP fin h0 hW hC hB hR hLP hfin
   (try (conv=>whnf));(repeat ((first|refine qT ?_|refine qF ?_|refine qO ?_|(with_reducible intro z hz);(first|(replace hz:=hz (by omega);subst hz)|subst hz)|(refine ah.mk _ (hC _ _ _ (PCw.of hE)) (fun js hjs=>?_);subst hjs)|(refine ah.mk _ (hC _ _ _ (PCw.of hX)) (fun js hjs=>?_);subst hjs));(try (conv=>whnf))))
   exact hfin _ (aA.refl _)
  |none=>
   rw[hq]at hE
   rw[nV]
   refine PC.aj (T:=tb0) ay aH rfl mixed Tryz.func128 rfl rfl (Nat.le_of_ble_eq_true rfl) ?_;intro Γ C WK LP fin h0 hW hC hB hR hLP hfin
   (try (conv=>whnf));(repeat ((first|refine qT ?_|refine qF ?_|refine qO ?_|(with_reducible intro z hz);(first|(replace hz:=hz (by omega);subst hz)|subst hz)|(refine ah.mk _ (hC _ _ _ (PCw.of hE)) (fun js hjs=>?_);subst hjs));(try (conv=>whnf))))
   exact hfin _ (.cons (ILe.nil _) (.refl _))
 ·rw[if_neg h3,nV]
  refine PC.aj (T:=tb0) ay aH rfl mixed Tryz.func128 rfl rfl (Nat.le_of_ble_eq_true rfl) ?_;intro Γ C WK LP fin h0 hW hC hB hR hLP hfin
  (try (conv=>whnf));(repeat ((first|refine qT ?_|refine qF ?_|refine qO ?_|(with_reducible intro z hz);(first|(replace hz:=hz (by omega);subst hz)|subst hz));(try (conv=>whnf))))
  exact hfin _ (.cons (ILe.nil _) (.refl _))
theorem KM (s:St) (l:List En) (hl:l.length≤1000000000):PC Tryz.prog aM 86 [stv s,.sl 28 (l.map cu)] [.sl 2 ((canon (pE (stD s l))).map spv)]:=by
 have hE:=Ng s.e l hl
 unfold stD stv
 by_cases h1:s.k=1
 ·rw[if_pos h1]
  have hX:=JN s.d
  unfold pE
  refine PC.aj (T:=tb0) ay aH rfl mixed Tryz.func86 rfl rfl (Nat.le_of_ble_eq_true rfl) ?_;intro Γ C WK LP fin h0 hW hC hB hR hLP hfin
  (try (conv=>whnf));(repeat ((first|refine qT ?_|refine qF ?_|refine qO ?_|(with_reducible intro z hz);(first|(replace hz:=hz (by omega);subst hz)|subst hz)|(refine ah.mk _ (hC _ _ _ (PCw.of hX)) (fun js hjs=>?_);subst hjs));(try (conv=>whnf))))
  exact hfin _ (aA.refl _)
 rw[if_neg h1]
 by_cases h3:s.k=3
 ·rw[if_pos h3]
  cases hq:evD s.e l with
  |some t=>
   rw[hq]at hE
   have hX:=JN t
   unfold pE
   refine PC.aj (T:=tb0) ay aH rfl mixed Tryz.func86 rfl rfl (Nat.le_of_ble_eq_true rfl) ?_;intro Γ C WK LP fin h0 hW hC hB hR hLP hfin
   (try (conv=>whnf));(repeat ((first|refine qT ?_|refine qF ?_|refine qO ?_|(with_reducible intro z hz);(first|(replace hz:=hz (by omega);subst hz)|subst hz)|(refine ah.mk _ (hC _ _ _ (PCw.of hE)) (fun js hjs=>?_);subst hjs)|(refine ah.mk _ (hC _ _ _ (PCw.of hX)) (fun js hjs=>?_);subst hjs));(try (conv=>whnf))))
   exact hfin _ (aA.refl _)
  |none=>
   rw[hq]at hE
   rw[nV]
   refine PC.aj (T:=tb0) ay aH rfl mixed Tryz.func86 rfl rfl (Nat.le_of_ble_eq_true rfl) ?_;intro Γ C WK LP fin h0 hW hC hB hR hLP hfin
   (try (conv=>whnf));(repeat ((first|refine qT ?_|refine qF ?_|refine qO ?_|(with_reducible intro z hz);(first|(replace hz:=hz (by omega);subst hz)|subst hz)|(refine ah.mk _ (hC _ _ _ (PCw.of hE)) (fun js hjs=>?_);subst hjs));(try (conv=>whnf))))
   refine bN.mk [] rfl ?_
   exact hfin _ (aA.refl _)
 ·rw[if_neg h3,nV]
  refine PC.aj (T:=tb0) ay aH rfl mixed Tryz.func86 rfl rfl (Nat.le_of_ble_eq_true rfl) ?_;intro Γ C WK LP fin h0 hW hC hB hR hLP hfin
  (try (conv=>whnf));(repeat ((first|refine qT ?_|refine qF ?_|refine qO ?_|(with_reducible intro z hz);(first|(replace hz:=hz (by omega);subst hz)|subst hz));(try (conv=>whnf))))
  refine bN.mk [] rfl ?_
  exact hfin _ (aA.refl _)
end Go.Proofs.YtfjibfdelbodjaaGreat.Pe
namespace Go.Proofs.YtfjibfdelbodjaaGreat.Pe
open Go Go.Pv Go.RowKit
set_option linter.unusedSimpArgs false
open Spans Rm
set_option maxRecDepth 10000
set_option maxHeartbeats 16000000
def IZ:List (IV×IV):=[(.int .i64 7,.fn 169),(.int .i64 8,.fn 171),(.int .i64 9,.fn 169)]
theorem Ej:PCB Tryz.prog aM 130 [] [.dead 1] [.row 0 2] [.map (.int .i64) 2 IZ]:=by
 refine PCB.aj (T:=tb0) ay aH rfl mixed Tryz.func130 rfl rfl rfl (Nat.le_of_ble_eq_true rfl) rfl ?_;intro Γ C WK LP fin h0 hk0 hW hC hB hR hLP hfin
 (try (conv=>whnf));(repeat ((first|refine qT ?_|refine qF ?_|refine qO ?_|(with_reducible intro z hz);(first|(replace hz:=hz (by omega);subst hz)|subst hz));(try (conv=>whnf))))
 exact hfin _ (aC.trans (aC.adopt 0 1 2 (by decide) rfl rfl (by rw[h0];exact Nat.le_of_ble_eq_true rfl) (by first|omega|(intro _;rw[hk0 _ _ rfl];exact Nat.le_of_ble_eq_true rfl)) (by repeat (first|exact trivial|refine And.intro (eD _ _ _ _ _) ?_|refine And.intro rfl ?_))) (qSL 1 rfl rfl))
def nwE (f:FuncId):Nat:=bif Nat.beq f 130 then 2 else 0
noncomputable def tbe:Tb:=⟨Pv.look tdl,eqs,fun _=>none,fun _=>[],fun _=>false,nwE⟩
theorem H7:∀t d,tbe.td t=some d→aJ Tryz.prog t=some d:=Pv.look_ok lY
theorem mo (x:En):cu x=.agg [.int .i64 x.act,.int .i64 x.item,.int .i64 x.day,.int .i64 x.it.kind,x.it.m 1,x.it.m 2,x.it.m 3,x.it.m 4,x.it.m 5,x.it.m 6,x.it.m 7,x.it.m 8,x.it.m 9,x.it.m 10,x.it.m 11,x.it.m 12,x.it.m 13,x.it.m 14,x.it.m 15,x.it.m 16,.int .i64 x.it.st.k,.int .i64 x.it.st.d,.str x.it.st.e,.int .i64 x.it.a,.int .i64 x.it.i,.int .i64 x.it.d,.str x.it.ev,x.it.b]:=rfl
theorem Ol (x:Im):imv x=.agg [.int .i64 x.kind,x.m 1,x.m 2,x.m 3,x.m 4,x.m 5,x.m 6,x.m 7,x.m 8,x.m 9,x.m 10,x.m 11,x.m 12,x.m 13,x.m 14,x.m 15,x.m 16,.int .i64 x.st.k,.int .i64 x.st.d,.str x.st.e,.int .i64 x.a,.int .i64 x.i,.int .i64 x.d,.str x.ev,x.b]:=rfl
abbrev bxS (a:St):Blk:=.box 1 [.imm (.int .i64 a.k),.imm (.int .i64 a.d),.imm (.str a.e)]
abbrev bxE (x:En):Blk:=.box 1 [.imm (.int .i64 x.act),.imm (.int .i64 x.item),.imm (.int .i64 x.day),.imm (.int .i64 x.it.kind),.imm (x.it.m 1),.imm (x.it.m 2),.imm (x.it.m 3),.imm (x.it.m 4),.imm (x.it.m 5),.imm (x.it.m 6),.imm (x.it.m 7),.imm (x.it.m 8),.imm (x.it.m 9),.imm (x.it.m 10),.imm (x.it.m 11),.imm (x.it.m 12),.imm (x.it.m 13),.imm (x.it.m 14),.imm (x.it.m 15),.imm (x.it.m 16),.imm (.int .i64 x.it.st.k),.imm (.int .i64 x.it.st.d),.imm (.str x.it.st.e),.imm (.int .i64 x.it.a),.imm (.int .i64 x.it.i),.imm (.int .i64 x.it.d),.imm (.str x.it.ev),.imm x.it.b]
theorem Ph {k:Int} (h7:¬k=7) (h8:¬k=8) (h9:¬k=9):fB IZ (.int .i64 k)=none:=by
 simp[IZ,fB,eqI,Ne.symm h7,Ne.symm h8,Ne.symm h9,eq_comm,h7,h8,h9]
theorem BO {e x:En} {P:Int→Bool} (h:refers x.it e.act e.item=false):jZ e P x=P:=by unfold jZ;rw[h];rfl
theorem wV {e x:En} {P:Int→Bool} (h7:¬x.it.kind=7) (h8:¬x.it.kind=8) (h9:¬x.it.kind=9):jZ e P x=P:=by
 unfold jZ
 split
 ·rename_i hr
  have h11:x.it.kind=11:=by
   unfold refers at hr
   rw[if_neg (fun h=>by rcases h with h|h|h<;>contradiction)]at hr
   split at hr
   ·assumption
   ·cases hr
  exact if_pos h11
 ·rfl
theorem EU {e x:En} {P:Int→Bool} (h:refers x.it e.act e.item=true) (hk:x.it.kind=7∨x.it.kind=9):jZ e P x=fun d=>P d||aK [(x.it.d,1048577)] d:=by
 unfold jZ
 rw[if_pos h,if_neg (by omega),if_neg (by omega)]
theorem xL {e x:En} {P:Int→Bool} (h:refers x.it e.act e.item=true) (hk:x.it.kind=8):jZ e P x=fun d=>P d&&aK [(0,x.it.d)] d:=by
 unfold jZ
 rw[if_pos h,if_pos hk]
theorem AY {P:Int→Bool} {n:Nat} (h:jU P n) (t:Int):canon (fun d=>aK (canon P) d||aK [(t,1048577)] d)=canon (fun d=>P d||aK [(t,1048577)] d):=gX fun d h0 h1=>by rw[h.val d h0 h1]
theorem nO {P:Int→Bool} {n:Nat} (h:jU P n) (t:Int):canon (fun d=>aK (canon P) d&&aK [(0,t)] d)=canon (fun d=>P d&&aK [(0,t)] d):=gX fun d h0 h1=>by rw[h.val d h0 h1]
end Go.Proofs.YtfjibfdelbodjaaGreat.Pe
namespace Go.Proofs.YtfjibfdelbodjaaGreat.Pe
open Go Go.Pv Go.RowKit
set_option linter.unusedSimpArgs false
open Spans Rm
set_option maxRecDepth 10000
set_option maxHeartbeats 16000000
theorem H9 (a:St) (e:En) (l:List En) (hl:l.length≤1000):PC Tryz.prog aM 84 [stv a,cu e,.sl 28 (l.map cu)] [.sl 2 ((bC a e l).map spv)]:=by
 have hml:(l.map cu).length=l.length:=List.length_map _
 unfold bC
 by_cases hk0:0≤e.it.kind
 rotate_left
 ·rw[if_neg (fun h=>hk0 h.1)]
  rw[mo e]
  unfold stv
  refine PC.aj (T:=tbe) ay H7 rfl mixed Tryz.func84 rfl rfl (Nat.le_of_ble_eq_true rfl) ?_;intro Γ C WK LP fin h0 hW hC hB hR hLP hfin
  (try (conv=>whnf));(repeat ((first|refine qT ?_|refine qF ?_|refine qO ?_|(with_reducible intro z hz);(first|(replace hz:=hz (by omega);subst hz)|subst hz));(try (conv=>whnf))))
  exact hfin _ (.cons (ILe.nil _) (.refl _))
 by_cases hk6:e.it.kind≤6
 rotate_left
 ·rw[if_neg (fun h=>hk6 h.2)]
  rw[mo e]
  unfold stv
  refine PC.aj (T:=tbe) ay H7 rfl mixed Tryz.func84 rfl rfl (Nat.le_of_ble_eq_true rfl) ?_;intro Γ C WK LP fin h0 hW hC hB hR hLP hfin
  (try (conv=>whnf));(repeat ((first|refine qT ?_|refine qF ?_|refine qO ?_|(with_reducible intro z hz);(first|(replace hz:=hz (by omega);subst hz)|subst hz));(try (conv=>whnf))))
  exact hfin _ (.cons (ILe.nil _) (.refl _))
 rw[if_pos ⟨hk0,hk6⟩]
 have hX:=AZ a e.it.st
 have hI:=GX (uK a e.it.st) l (by omega)
 have hM:=Ej
 generalize hr:uK a e.it.st=r at *
 have hP0:=jL (stD r l)
 generalize pE (stD r l)=P0 at *
 rw[mo e]
 unfold stv at *
 refine PC.aj (T:=tbe) ay H7 rfl mixed Tryz.func84 rfl rfl (Nat.le_of_ble_eq_true rfl) ?_;intro Γ C WK LP fin h0 hW hC hB hR hLP hfin
 (try (conv=>whnf));(repeat ((first|refine qT ?_|refine qF ?_|refine qO ?_|(with_reducible intro z hz);(first|(replace hz:=hz (by omega);subst hz)|subst hz)|(refine ah.mk _ (hC _ _ _ (PCw.of hX)) (fun js hjs=>?_);subst hjs)|(refine ah.mk _ (hC _ _ _ (PCw.of hI)) (fun js hjs=>?_);subst hjs));(try (conv=>whnf))))
 refine bV.mk ([.row 0 2]) ([.map (.int .i64) 2 IZ]) (hB _ _ _ _ _ (hM)) ?_
 (try (conv=>whnf));(repeat ((first|refine qT ?_|refine qF ?_|refine qO ?_|(with_reducible intro z hz);(first|(replace hz:=hz (by omega);subst hz)|subst hz));(try (conv=>whnf))))
 have hml:(l.map cu).length=l.length:=List.length_map _
 refine hLP _ _ _ Nat (fun k=>⟨[(4,.ptr 1 1 0),(7,.imm (.sl 2 ((canon (jF P0 e (l.take k))).map spv))),(8,.row 4 1),(31,.imm (.sl 28 (l.map cu))),(32,.imm (.int .i64 (l.length:Nat))),(33,.imm (.int .i64 (k:Nat)))],[bxS a,bxE e,.dead 0,.dead 0,.map (.int .i64) 1 IZ]⟩) (fun k=>k≤l.length) (fun k=>l.length - k) 0 (Nat.zero_le _) (qSL 5 rfl rfl (hE:=by (repeat ((conv=>whnf);first|exact trivial|refine And.intro (by first|exact av.any|exact av.eq (by with_reducible rfl) rfl|exact av.eq (congrArg (fun z=>PV.imm (IV.int IntKind.i64 z)) (by first|omega|(simp[hml];done)|(simp[hml];omega))) rfl|exact av.eq (by first|(simp[hml];done)|fail) rfl|exact av.eq rfl rfl|exact av.le rfl (ILe.nil _)) ?_)))) ?_
 intro k hk
 have hho:=Nat.lt_or_ge k l.length
 cases hho with
 |inl hlt=>
  obtain⟨x,hx⟩:∃x,l[k]?=some x:=⟨l[k],List.getElem?_eq_getElem hlt⟩
  have hst:=zx (P:=P0) (e:=e) hx
  have hPk:jU (jF P0 e (l.take k)) (1+(l.take k).length):=kW hP0
  rw[List.length_take,Nat.min_eq_left hk]at hPk
  generalize jF P0 e (l.take k)=P at *
  have hRf:=Kh x.it e.act e.item
  rw[Ol]at hRf
  have hlen:=hPk.2
  by_cases h7:x.it.kind=7∨x.it.kind=9
  ·have hlk:fB IZ (.int .i64 x.it.kind)=some (.fn 169):=by rcases h7 with h|h<;>rw[h]<;>rfl
   cases hr:refers x.it e.act e.item with
   |true=>
    rw[hr]at hRf
    rw[EU hr h7]at hst
    have hX2:=Ay (canon P) x.it.d (by omega)
    rw[AY hPk]at hX2
    (try (conv=>whnf));(repeat ((first|refine qT ?_|refine qF ?_|refine qO ?_|(with_reducible intro z hz);(first|(replace hz:=hz (by omega);subst hz)|subst hz));(try (conv=>whnf))))
    refine Idx.mk k (cu x) _ rfl (by simp[hx]) rfl ?_
    (try (conv=>whnf));(repeat ((first|refine qT ?_|refine qF ?_|refine qO ?_|(with_reducible intro z hz);(first|(replace hz:=hz (by omega);subst hz)|subst hz));(try (conv=>whnf))))
    refine gD.mk (.fn 169) true (by rw[hlk];rfl) (by rw[hlk];rfl) ?_
    (try (conv=>whnf));(repeat ((first|refine qT ?_|refine qF ?_|refine qO ?_|(with_reducible intro z hz);(first|(replace hz:=hz (by omega);subst hz)|subst hz)|(refine ah.mk _ (hC _ _ _ (PCw.of hRf)) (fun js hjs=>?_);subst hjs)|(refine ah.mk _ (hC _ _ _ (PCw.of hX2)) (fun js hjs=>?_);subst hjs));(try (conv=>whnf))))
    refine⟨k+1,by omega,by dsimp only;omega,?_⟩
    dsimp only[]
    rw[hst]
    exact (qSL 5 rfl rfl)
   |false=>
    rw[hr]at hRf
    rw[BO hr]at hst
    (try (conv=>whnf));(repeat ((first|refine qT ?_|refine qF ?_|refine qO ?_|(with_reducible intro z hz);(first|(replace hz:=hz (by omega);subst hz)|subst hz));(try (conv=>whnf))))
    refine Idx.mk k (cu x) _ rfl (by simp[hx]) rfl ?_
    (try (conv=>whnf));(repeat ((first|refine qT ?_|refine qF ?_|refine qO ?_|(with_reducible intro z hz);(first|(replace hz:=hz (by omega);subst hz)|subst hz));(try (conv=>whnf))))
    refine gD.mk (.fn 169) true (by rw[hlk];rfl) (by rw[hlk];rfl) ?_
    (try (conv=>whnf));(repeat ((first|refine qT ?_|refine qF ?_|refine qO ?_|(with_reducible intro z hz);(first|(replace hz:=hz (by omega);subst hz)|subst hz)|(refine ah.mk _ (hC _ _ _ (PCw.of hRf)) (fun js hjs=>?_);subst hjs));(try (conv=>whnf))))
    refine⟨k+1,by omega,by dsimp only;omega,?_⟩
    dsimp only[]
    rw[hst]
    exact (qSL 5 rfl rfl)
  by_cases h8:x.it.kind=8
  ·have hlk:fB IZ (.int .i64 x.it.kind)=some (.fn 171):=by rw[h8];rfl
   cases hr:refers x.it e.act e.item with
   |true=>
    rw[hr]at hRf
    rw[xL hr h8]at hst
    have hX2:=EZ (canon P) x.it.d (by omega)
    rw[nO hPk]at hX2
    (try (conv=>whnf));(repeat ((first|refine qT ?_|refine qF ?_|refine qO ?_|(with_reducible intro z hz);(first|(replace hz:=hz (by omega);subst hz)|subst hz));(try (conv=>whnf))))
    refine Idx.mk k (cu x) _ rfl (by simp[hx]) rfl ?_
    (try (conv=>whnf));(repeat ((first|refine qT ?_|refine qF ?_|refine qO ?_|(with_reducible intro z hz);(first|(replace hz:=hz (by omega);subst hz)|subst hz));(try (conv=>whnf))))
    refine gD.mk (.fn 171) true (by rw[hlk];rfl) (by rw[hlk];rfl) ?_
    (try (conv=>whnf));(repeat ((first|refine qT ?_|refine qF ?_|refine qO ?_|(with_reducible intro z hz);(first|(replace hz:=hz (by omega);subst hz)|subst hz)|(refine ah.mk _ (hC _ _ _ (PCw.of hRf)) (fun js hjs=>?_);subst hjs)|(refine ah.mk _ (hC _ _ _ (PCw.of hX2)) (fun js hjs=>?_);subst hjs));(try (conv=>whnf))))
    refine⟨k+1,by omega,by dsimp only;omega,?_⟩
    dsimp only[]
    rw[hst]
    exact (qSL 5 rfl rfl)
   |false=>
    rw[hr]at hRf
    rw[BO hr]at hst
    (try (conv=>whnf));(repeat ((first|refine qT ?_|refine qF ?_|refine qO ?_|(with_reducible intro z hz);(first|(replace hz:=hz (by omega);subst hz)|subst hz));(try (conv=>whnf))))
    refine Idx.mk k (cu x) _ rfl (by simp[hx]) rfl ?_
    (try (conv=>whnf));(repeat ((first|refine qT ?_|refine qF ?_|refine qO ?_|(with_reducible intro z hz);(first|(replace hz:=hz (by omega);subst hz)|subst hz));(try (conv=>whnf))))
    refine gD.mk (.fn 171) true (by rw[hlk];rfl) (by rw[hlk];rfl) ?_
    (try (conv=>whnf));(repeat ((first|refine qT ?_|refine qF ?_|refine qO ?_|(with_reducible intro z hz);(first|(replace hz:=hz (by omega);subst hz)|subst hz)|(refine ah.mk _ (hC _ _ _ (PCw.of hRf)) (fun js hjs=>?_);subst hjs));(try (conv=>whnf))))
    refine⟨k+1,by omega,by dsimp only;omega,?_⟩
    dsimp only[]
    rw[hst]
    exact (qSL 5 rfl rfl)
  have hlk:=Ph (k:=x.it.kind) (by omega) h8 (by omega)
  rw[wV (by omega) h8 (by omega)]at hst
  (try (conv=>whnf));(repeat ((first|refine qT ?_|refine qF ?_|refine qO ?_|(with_reducible intro z hz);(first|(replace hz:=hz (by omega);subst hz)|subst hz));(try (conv=>whnf))))
  refine Idx.mk k (cu x) _ rfl (by simp[hx]) rfl ?_
  (try (conv=>whnf));(repeat ((first|refine qT ?_|refine qF ?_|refine qO ?_|(with_reducible intro z hz);(first|(replace hz:=hz (by omega);subst hz)|subst hz));(try (conv=>whnf))))
  refine gD.mk .nf false (by rw[hlk];rfl) (by rw[hlk];rfl) ?_
  (try (conv=>whnf));(repeat ((first|refine qT ?_|refine qF ?_|refine qO ?_|(with_reducible intro z hz);(first|(replace hz:=hz (by omega);subst hz)|subst hz));(try (conv=>whnf))))
  refine⟨k+1,by omega,by dsimp only;omega,?_⟩
  dsimp only[]
  rw[hst]
  exact (qSL 5 rfl rfl)
 |inr hge=>
  obtain rfl:k=l.length:=by omega
  rw[List.take_length]
  (try (conv=>whnf));(repeat ((first|refine qT ?_|refine qF ?_|refine qO ?_|(with_reducible intro z hz);(first|(replace hz:=hz (by omega);subst hz)|subst hz));(try (conv=>whnf))))
  exact hfin _ (aA.refl _)
end Go.Proofs.YtfjibfdelbodjaaGreat.Pe
