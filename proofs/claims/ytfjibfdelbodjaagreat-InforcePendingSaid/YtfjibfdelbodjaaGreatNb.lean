/-
  The reference's sets of days: membership, sorted insertion, points. The reference's operations on sets of days.
-/
import Derived.Test.YtfjibfdelbodjaaGreatNa
import Derived.Test.YtfjibfdelbodjaaGreatMa
namespace Go.Proofs.YtfjibfdelbodjaaGreat.Pe
open Go Go.Pv Go.RowKit
set_option linter.unusedSimpArgs false
open Spans Rm
set_option maxRecDepth 10000
set_option maxHeartbeats 16000000
def spv (s:Sp):IV:=.agg [.int .i64 s.1,.int .i64 s.2]
abbrev zv (z:Int):IV:=.int .i64 z
theorem MH {L:List Sp} {k:Nat} {x:Sp} (hx:L[k]?=some x) (d:Int):eU (L.take (k+1)) d=(eU (L.take k) d||(decide (0≤d∧d≤1048576)&&decide (x.1≤d∧d < x.2))):=by
 unfold eU
 rw[take_at hx,nS]
 simp[aK,Bool.and_or_distrib_left]
theorem Pw {L:List Sp} {k:Nat} {x:Sp} (hx:L[k]?=some x) {d:Int} (h0:0≤d∧d≤1048576) (h1:x.1≤d∧d < x.2):eU L d=true:=by
 unfold eU
 rw[decide_eq_true h0,Bool.true_and,iG]
 exact⟨x,List.mem_of_getElem? hx,h1⟩
theorem OI (L:List Sp) (d:Int) (hl:L.length≤1000000):PC Tryz.prog aM 198 [.sl 2 (L.map spv),.int .i64 d] [.bool (eU L d)]:=by
 have hml:(L.map spv).length=L.length:=List.length_map _
 refine PC.aj (T:=tb0) ay aH rfl mixed Tryz.func198 rfl rfl (Nat.le_of_ble_eq_true rfl) ?_;intro Γ C WK LP fin h0 hW hC hB hR hLP hfin
 (try (conv=>whnf));(repeat ((first|refine qT ?_|refine qF ?_|refine qO ?_|(with_reducible intro z hz);(first|(replace hz:=hz (by omega);subst hz)|subst hz));(try (conv=>whnf))))
 refine hLP _ _ _ Nat (fun k=>⟨[(0,.imm (.sl 2 (L.map spv))),(1,.imm (.int .i64 d)),(5,.imm (.int .i64 (k:Nat)))],[]⟩) (fun k=>k≤L.length∧eU (L.take k) d=false) (fun k=>L.length - k) 0 ⟨Nat.zero_le _,by simp[eU,aK]⟩ (qSL 0 rfl rfl) ?_
 rintro k ⟨hk,hp⟩
 have hho:=Nat.lt_or_ge k L.length
 cases hho with
 |inl hlt=>
  obtain⟨⟨f,t⟩,hx⟩:∃x,L[k]?=some x:=⟨L[k],List.getElem?_eq_getElem hlt⟩
  have hst:=MH hx d
  rw[hp,Bool.false_or]at hst
  dsimp only at hst
  by_cases h0:0≤d
  rotate_left
  ·rw[decide_eq_false (fun h=>h0 h.1),Bool.false_and]at hst
   (try (conv=>whnf));(repeat ((first|refine qT ?_|refine qF ?_|refine qO ?_|(with_reducible intro z hz);(first|(replace hz:=hz (by omega);subst hz)|subst hz));(try (conv=>whnf))))
   exact⟨k+1,⟨by omega,hst⟩,by dsimp only;omega,(qSL 0 rfl rfl)⟩
  by_cases h1:d≤1048576
  rotate_left
  ·rw[decide_eq_false (fun h=>h1 h.2),Bool.false_and]at hst
   (try (conv=>whnf));(repeat ((first|refine qT ?_|refine qF ?_|refine qO ?_|(with_reducible intro z hz);(first|(replace hz:=hz (by omega);subst hz)|subst hz));(try (conv=>whnf))))
   exact⟨k+1,⟨by omega,hst⟩,by dsimp only;omega,(qSL 0 rfl rfl)⟩
  by_cases h2:f≤d
  rotate_left
  ·rw[decide_eq_false (fun h:f≤d∧d < t=>h2 h.1),Bool.and_false]at hst
   (try (conv=>whnf));(repeat ((first|refine qT ?_|refine qF ?_|refine qO ?_|(with_reducible intro z hz);(first|(replace hz:=hz (by omega);subst hz)|subst hz));(try (conv=>whnf))))
   refine Idx.mk k (spv (f,t)) _ rfl (by simp[hx]) rfl ?_
   (try (conv=>whnf));(repeat ((first|refine qT ?_|refine qF ?_|refine qO ?_|(with_reducible intro z hz);(first|(replace hz:=hz (by omega);subst hz)|subst hz));(try (conv=>whnf))))
   exact⟨k+1,⟨by omega,hst⟩,by dsimp only;omega,(qSL 0 rfl rfl)⟩
  by_cases h3:d < t
  ·rw[Pw hx ⟨h0,h1⟩ ⟨h2,h3⟩]at hfin
   (try (conv=>whnf));(repeat ((first|refine qT ?_|refine qF ?_|refine qO ?_|(with_reducible intro z hz);(first|(replace hz:=hz (by omega);subst hz)|subst hz));(try (conv=>whnf))))
   refine Idx.mk k (spv (f,t)) _ rfl (by simp[hx]) rfl ?_
   (try (conv=>whnf));(repeat ((first|refine qT ?_|refine qF ?_|refine qO ?_|(with_reducible intro z hz);(first|(replace hz:=hz (by omega);subst hz)|subst hz));(try (conv=>whnf))))
   refine Idx.mk k (spv (f,t)) _ rfl (by simp[hx]) rfl ?_
   (try (conv=>whnf));(repeat ((first|refine qT ?_|refine qF ?_|refine qO ?_|(with_reducible intro z hz);(first|(replace hz:=hz (by omega);subst hz)|subst hz));(try (conv=>whnf))))
   exact hfin _ (aA.refl _)
  ·rw[decide_eq_false (fun h:f≤d∧d < t=>h3 h.2),Bool.and_false]at hst
   (try (conv=>whnf));(repeat ((first|refine qT ?_|refine qF ?_|refine qO ?_|(with_reducible intro z hz);(first|(replace hz:=hz (by omega);subst hz)|subst hz));(try (conv=>whnf))))
   refine Idx.mk k (spv (f,t)) _ rfl (by simp[hx]) rfl ?_
   (try (conv=>whnf));(repeat ((first|refine qT ?_|refine qF ?_|refine qO ?_|(with_reducible intro z hz);(first|(replace hz:=hz (by omega);subst hz)|subst hz));(try (conv=>whnf))))
   refine Idx.mk k (spv (f,t)) _ rfl (by simp[hx]) rfl ?_
   (try (conv=>whnf));(repeat ((first|refine qT ?_|refine qF ?_|refine qO ?_|(with_reducible intro z hz);(first|(replace hz:=hz (by omega);subst hz)|subst hz));(try (conv=>whnf))))
   exact⟨k+1,⟨by omega,hst⟩,by dsimp only;omega,(qSL 0 rfl rfl)⟩
 |inr hge=>
  obtain rfl:k=L.length:=by omega
  rw[List.take_length]at hp
  rw[hp]at hfin
  (try (conv=>whnf));(repeat ((first|refine qT ?_|refine qF ?_|refine qO ?_|(with_reducible intro z hz);(first|(replace hz:=hz (by omega);subst hz)|subst hz));(try (conv=>whnf))))
  exact hfin _ (aA.refl _)
theorem Lp (h:Int) (hh:h=0∨h=1∨h=2) (La Lb:List Sp) (d:Int) (ha:La.length≤1000000) (hb:Lb.length≤1000000):PC Tryz.prog aM 174 [.int .i64 h,.sl 2 (La.map spv),.sl 2 (Lb.map spv),.int .i64 d] [.bool (opB h (eU La d) (eU Lb d))]:=by
 have h1:=OI La d ha
 have h2:=OI Lb d hb
 generalize eU La d=x at *
 generalize eU Lb d=y at *
 rcases hh with rfl|rfl|rfl<;>cases x<;>cases y
 all_goals (unfold opB)
 all_goals (refine PC.aj (T:=tb0) ay aH rfl mixed Tryz.func174 rfl rfl (Nat.le_of_ble_eq_true rfl) ?_;intro Γ C WK LP fin h0 hW hC hB hR hLP hfin)
 all_goals ((try (conv=>whnf));(repeat ((first|refine qT ?_|refine qF ?_|refine qO ?_|(with_reducible intro z hz);(first|(replace hz:=hz (by omega);subst hz)|subst hz));(try (conv=>whnf)))))
 all_goals (refine ah.mk _ (hC _ _ _ (PCw.of (h1))) (fun js hjs=>?_);subst hjs)
 all_goals ((try (conv=>whnf));(repeat ((first|refine qT ?_|refine qF ?_|refine qO ?_|(with_reducible intro z hz);(first|(replace hz:=hz (by omega);subst hz)|subst hz));(try (conv=>whnf)))))
 all_goals (refine ah.mk _ (hC _ _ _ (PCw.of (h2))) (fun js hjs=>?_);subst hjs)
 all_goals ((try (conv=>whnf));(repeat ((first|refine qT ?_|refine qF ?_|refine qO ?_|(with_reducible intro z hz);(first|(replace hz:=hz (by omega);subst hz)|subst hz));(try (conv=>whnf)))))
 all_goals (exact hfin _ (aA.refl _))
theorem E9 {zs:List Int} {k:Nat} {z:Int} (h:zs[k]?=some z):el zs k=z:=by unfold el;rw[List.getD_eq_getElem?_getD,h];rfl
theorem sH (zs:List Int) (n:Int) (hl:zs.length≤1000000):PC Tryz.prog aM 197 [.sl 1 (zs.map zv),.int .i64 n] [.sl 1 ((jV zs n).map zv)]:=by
 have hml:(zs.map zv).length=zs.length:=List.length_map _
 refine PC.aj (T:=tb0) ay aH rfl mixed Tryz.func197 rfl rfl (Nat.le_of_ble_eq_true rfl) ?_;intro Γ C WK LP fin h0 hW hC hB hR hLP hfin
 (try (conv=>whnf));(repeat ((first|refine qT ?_|refine qF ?_|refine qO ?_|(with_reducible intro z hz);(first|(replace hz:=hz (by omega);subst hz)|subst hz));(try (conv=>whnf))))
 refine hLP _ _ _ Nat (fun k=>⟨[(0,.imm (.sl 1 (zs.map zv))),(1,.imm (.int .i64 n)),(5,.imm (.int .i64 (k:Nat)))],[]⟩) (fun k=>k≤zs.length∧∀j,j < k→el zs j < n) (fun k=>zs.length - k) 0 ⟨Nat.zero_le _,fun j h=>by omega⟩ (qSL 0 rfl rfl) ?_
 rintro k ⟨hk,hp⟩
 have hho:=Nat.lt_or_ge k zs.length
 cases hho with
 |inl hlt=>
  obtain⟨z,hx⟩:∃z,zs[k]?=some z:=⟨zs[k],List.getElem?_eq_getElem hlt⟩
  have he:=E9 hx
  by_cases h0:z < n
  ·(try (conv=>whnf));(repeat ((first|refine qT ?_|refine qF ?_|refine qO ?_|(with_reducible intro z hz);(first|(replace hz:=hz (by omega);subst hz)|subst hz));(try (conv=>whnf))))
   refine Idx.mk k (zv z) _ rfl (by simp[hx]) rfl ?_
   (try (conv=>whnf));(repeat ((first|refine qT ?_|refine qF ?_|refine qO ?_|(with_reducible intro z hz);(first|(replace hz:=hz (by omega);subst hz)|subst hz));(try (conv=>whnf))))
   exact⟨k+1,⟨by omega,fun j hj=>by
    rcases Nat.lt_or_ge j k with h|h
    ·exact hp j h
    ·obtain rfl:j=k:=by omega
     rw[he];exact h0⟩,by dsimp only;omega,(qSL 0 rfl rfl)⟩
  ·have hq:=CW zs n k hk hp (fun _=>by rw[he];exact h0)
   by_cases h1:z=n
   ·rw[if_pos ⟨hlt,by rw[he];exact h1⟩]at hq
    rw[hq]at hfin
    (try (conv=>whnf));(repeat ((first|refine qT ?_|refine qF ?_|refine qO ?_|(with_reducible intro z hz);(first|(replace hz:=hz (by omega);subst hz)|subst hz));(try (conv=>whnf))))
    refine Idx.mk k (zv z) _ rfl (by simp[hx]) rfl ?_
    (try (conv=>whnf));(repeat ((first|refine qT ?_|refine qF ?_|refine qO ?_|(with_reducible intro z hz);(first|(replace hz:=hz (by omega);subst hz)|subst hz));(try (conv=>whnf))))
    refine Idx.mk k (zv z) _ rfl (by simp[hx]) rfl ?_
    (try (conv=>whnf));(repeat ((first|refine qT ?_|refine qF ?_|refine qO ?_|(with_reducible intro z hz);(first|(replace hz:=hz (by omega);subst hz)|subst hz));(try (conv=>whnf))))
    exact hfin _ (aA.refl _)
   ·rw[if_neg (fun h=>h1 (by rw[←he];exact h.2))]at hq
    rw[hq]at hfin
    (try (conv=>whnf));(repeat ((first|refine qT ?_|refine qF ?_|refine qO ?_|(with_reducible intro z hz);(first|(replace hz:=hz (by omega);subst hz)|subst hz));(try (conv=>whnf))))
    refine Idx.mk k (zv z) _ rfl (by simp[hx]) rfl ?_
    (try (conv=>whnf));(repeat ((first|refine qT ?_|refine qF ?_|refine qO ?_|(with_reducible intro z hz);(first|(replace hz:=hz (by omega);subst hz)|subst hz));(try (conv=>whnf))))
    refine Idx.mk k (zv z) _ rfl (by simp[hx]) rfl ?_
    (try (conv=>whnf));(repeat ((first|refine qT ?_|refine qF ?_|refine qO ?_|(with_reducible intro z hz);(first|(replace hz:=hz (by omega);subst hz)|subst hz));(try (conv=>whnf))))
    refine bN.mk ((zs.take k++n::zs.drop k).map zv) (by simp) ?_
    exact hfin _ (aA.refl _)
 |inr hge=>
  obtain rfl:k=zs.length:=by omega
  have hq:=CW zs n zs.length (Nat.le_refl _) hp (fun h=>by omega)
  rw[if_neg (fun h=>by omega)]at hq
  rw[hq]at hfin
  (try (conv=>whnf));(repeat ((first|refine qT ?_|refine qF ?_|refine qO ?_|(with_reducible intro z hz);(first|(replace hz:=hz (by omega);subst hz)|subst hz));(try (conv=>whnf))))
  rw[List.take_length,List.drop_length]at hfin
  refine bN.mk ((zs++[n]).map zv) (by simp[List.take_of_length_le,List.drop_of_length_le]) ?_
  exact hfin _ (aA.refl _)
theorem Tf {L:List Sp} {k:Nat} {x:Sp} (h:L[k]?=some x):fr L k=x.1:=by unfold fr;rw[List.getD_eq_getElem?_getD,h];rfl
theorem Tm {L:List Sp} {k:Nat} {x:Sp} (h:L[k]?=some x):tu L k=x.2:=by unfold tu;rw[List.getD_eq_getElem?_getD,h];rfl
theorem Km (L:List Sp) (hl:L.length≤100000):PC Tryz.prog aM 173 [.sl 2 (L.map spv)] [.sl 1 ((pts L).map zv)]:=by
 have hml:(L.map spv).length=L.length:=List.length_map _
 refine PC.aj (T:=tb0) ay aH rfl mixed Tryz.func173 rfl rfl (Nat.le_of_ble_eq_true rfl) ?_;intro Γ C WK LP fin h0 hW hC hB hR hLP hfin
 (try (conv=>whnf));(repeat ((first|refine qT ?_|refine qF ?_|refine qO ?_|(with_reducible intro z hz);(first|(replace hz:=hz (by omega);subst hz)|subst hz));(try (conv=>whnf))))
 refine hLP _ _ _ Nat (fun k=>⟨[(0,.imm (.sl 2 (L.map spv))),(3,.imm (.sl 1 ((pts (L.take k)).map zv))),(4,.imm (.int .i64 (k:Nat)))],[]⟩) (fun k=>k≤L.length) (fun k=>L.length - k) 0 (Nat.zero_le _) ((aC.frozen 0 ([zv 0]) rfl (by first|rfl|simp) (ILe.refl _) (by repeat (first|exact trivial|refine And.intro (BK _ _ _ _) ?_|refine And.intro rfl ?_))).trans (qSL 0 rfl rfl)) ?_
 intro k hk
 have hho:=Nat.lt_or_ge k L.length
 cases hho with
 |inl hlt=>
  obtain⟨⟨f,t⟩,hx⟩:∃x,L[k]?=some x:=⟨L[k],List.getElem?_eq_getElem hlt⟩
  have hst:=NK L k hlt
  rw[Tf hx,Tm hx]at hst
  have hl0:=JZ (L.take k)
  rw[List.length_take,Nat.min_eq_left hk]at hl0
  generalize pts (L.take k)=zs at *
  have hQ1:=sH zs f (by omega)
  have hlp:=(rE zs f).2.1
  have hQ2:=sH (jV zs f) t (by omega)
  have hQ3:=sH zs t (by omega)
  dsimp only at hst
  by_cases f0:0 < f
  ·by_cases f1:f≤1048576
   ·rw[vG zs f f0 f1]at hst
    clear hQ3
    by_cases t0:0 < t
    ·by_cases t1:t≤1048576
     ·rw[vG _ t t0 t1]at hst
      (try (conv=>whnf));(repeat ((first|refine qT ?_|refine qF ?_|refine qO ?_|(with_reducible intro z hz);(first|(replace hz:=hz (by omega);subst hz)|subst hz));(try (conv=>whnf))))
      repeat (refine Idx.mk k (spv (f,t)) _ rfl (by simp[hx]) rfl ?_;(try (conv=>whnf));(repeat ((first|refine qT ?_|refine qF ?_|refine qO ?_|(with_reducible intro z hz);(first|(replace hz:=hz (by omega);subst hz)|subst hz));(try (conv=>whnf)))))
      refine ah.mk _ (hC _ _ _ (PCw.of (hQ1))) (fun js hjs=>?_);subst hjs
      (try (conv=>whnf));(repeat ((first|refine qT ?_|refine qF ?_|refine qO ?_|(with_reducible intro z hz);(first|(replace hz:=hz (by omega);subst hz)|subst hz));(try (conv=>whnf))))
      repeat (refine Idx.mk k (spv (f,t)) _ rfl (by simp[hx]) rfl ?_;(try (conv=>whnf));(repeat ((first|refine qT ?_|refine qF ?_|refine qO ?_|(with_reducible intro z hz);(first|(replace hz:=hz (by omega);subst hz)|subst hz));(try (conv=>whnf)))))
      refine ah.mk _ (hC _ _ _ (PCw.of (hQ2))) (fun js hjs=>?_);subst hjs
      (try (conv=>whnf));(repeat ((first|refine qT ?_|refine qF ?_|refine qO ?_|(with_reducible intro z hz);(first|(replace hz:=hz (by omega);subst hz)|subst hz));(try (conv=>whnf))))
      refine⟨k+1,by omega,by dsimp only;omega,?_⟩
      dsimp only[]
      rw[hst]
      exact (qSL 0 rfl rfl)
     ·rw[oJ _ t t1]at hst
      (try (conv=>whnf));(repeat ((first|refine qT ?_|refine qF ?_|refine qO ?_|(with_reducible intro z hz);(first|(replace hz:=hz (by omega);subst hz)|subst hz));(try (conv=>whnf))))
      repeat (refine Idx.mk k (spv (f,t)) _ rfl (by simp[hx]) rfl ?_;(try (conv=>whnf));(repeat ((first|refine qT ?_|refine qF ?_|refine qO ?_|(with_reducible intro z hz);(first|(replace hz:=hz (by omega);subst hz)|subst hz));(try (conv=>whnf)))))
      refine ah.mk _ (hC _ _ _ (PCw.of (hQ1))) (fun js hjs=>?_);subst hjs
      (try (conv=>whnf));(repeat ((first|refine qT ?_|refine qF ?_|refine qO ?_|(with_reducible intro z hz);(first|(replace hz:=hz (by omega);subst hz)|subst hz));(try (conv=>whnf))))
      repeat (refine Idx.mk k (spv (f,t)) _ rfl (by simp[hx]) rfl ?_;(try (conv=>whnf));(repeat ((first|refine qT ?_|refine qF ?_|refine qO ?_|(with_reducible intro z hz);(first|(replace hz:=hz (by omega);subst hz)|subst hz));(try (conv=>whnf)))))
      refine⟨k+1,by omega,by dsimp only;omega,?_⟩
      dsimp only[]
      rw[hst]
      exact (qSL 0 rfl rfl)
    ·rw[qw _ t t0]at hst
     (try (conv=>whnf));(repeat ((first|refine qT ?_|refine qF ?_|refine qO ?_|(with_reducible intro z hz);(first|(replace hz:=hz (by omega);subst hz)|subst hz));(try (conv=>whnf))))
     repeat (refine Idx.mk k (spv (f,t)) _ rfl (by simp[hx]) rfl ?_;(try (conv=>whnf));(repeat ((first|refine qT ?_|refine qF ?_|refine qO ?_|(with_reducible intro z hz);(first|(replace hz:=hz (by omega);subst hz)|subst hz));(try (conv=>whnf)))))
     refine ah.mk _ (hC _ _ _ (PCw.of (hQ1))) (fun js hjs=>?_);subst hjs
     (try (conv=>whnf));(repeat ((first|refine qT ?_|refine qF ?_|refine qO ?_|(with_reducible intro z hz);(first|(replace hz:=hz (by omega);subst hz)|subst hz));(try (conv=>whnf))))
     repeat (refine Idx.mk k (spv (f,t)) _ rfl (by simp[hx]) rfl ?_;(try (conv=>whnf));(repeat ((first|refine qT ?_|refine qF ?_|refine qO ?_|(with_reducible intro z hz);(first|(replace hz:=hz (by omega);subst hz)|subst hz));(try (conv=>whnf)))))
     refine⟨k+1,by omega,by dsimp only;omega,?_⟩
     dsimp only[]
     rw[hst]
     exact (qSL 0 rfl rfl)
   ·rw[oJ zs f f1]at hst
    clear hQ1 hQ2 hlp
    by_cases t0:0 < t
    ·by_cases t1:t≤1048576
     ·rw[vG _ t t0 t1]at hst
      (try (conv=>whnf));(repeat ((first|refine qT ?_|refine qF ?_|refine qO ?_|(with_reducible intro z hz);(first|(replace hz:=hz (by omega);subst hz)|subst hz));(try (conv=>whnf))))
      repeat (refine Idx.mk k (spv (f,t)) _ rfl (by simp[hx]) rfl ?_;(try (conv=>whnf));(repeat ((first|refine qT ?_|refine qF ?_|refine qO ?_|(with_reducible intro z hz);(first|(replace hz:=hz (by omega);subst hz)|subst hz));(try (conv=>whnf)))))
      refine ah.mk _ (hC _ _ _ (PCw.of (hQ3))) (fun js hjs=>?_);subst hjs
      (try (conv=>whnf));(repeat ((first|refine qT ?_|refine qF ?_|refine qO ?_|(with_reducible intro z hz);(first|(replace hz:=hz (by omega);subst hz)|subst hz));(try (conv=>whnf))))
      refine⟨k+1,by omega,by dsimp only;omega,?_⟩
      dsimp only[]
      rw[hst]
      exact (qSL 0 rfl rfl)
     ·rw[oJ _ t t1]at hst
      (try (conv=>whnf));(repeat ((first|refine qT ?_|refine qF ?_|refine qO ?_|(with_reducible intro z hz);(first|(replace hz:=hz (by omega);subst hz)|subst hz));(try (conv=>whnf))))
      repeat (refine Idx.mk k (spv (f,t)) _ rfl (by simp[hx]) rfl ?_;(try (conv=>whnf));(repeat ((first|refine qT ?_|refine qF ?_|refine qO ?_|(with_reducible intro z hz);(first|(replace hz:=hz (by omega);subst hz)|subst hz));(try (conv=>whnf)))))
      refine⟨k+1,by omega,by dsimp only;omega,?_⟩
      dsimp only[]
      rw[hst]
      exact (qSL 0 rfl rfl)
    ·rw[qw _ t t0]at hst
     (try (conv=>whnf));(repeat ((first|refine qT ?_|refine qF ?_|refine qO ?_|(with_reducible intro z hz);(first|(replace hz:=hz (by omega);subst hz)|subst hz));(try (conv=>whnf))))
     repeat (refine Idx.mk k (spv (f,t)) _ rfl (by simp[hx]) rfl ?_;(try (conv=>whnf));(repeat ((first|refine qT ?_|refine qF ?_|refine qO ?_|(with_reducible intro z hz);(first|(replace hz:=hz (by omega);subst hz)|subst hz));(try (conv=>whnf)))))
     refine⟨k+1,by omega,by dsimp only;omega,?_⟩
     dsimp only[]
     rw[hst]
     exact (qSL 0 rfl rfl)
  ·rw[qw zs f f0]at hst
   clear hQ1 hQ2 hlp
   by_cases t0:0 < t
   ·by_cases t1:t≤1048576
    ·rw[vG _ t t0 t1]at hst
     (try (conv=>whnf));(repeat ((first|refine qT ?_|refine qF ?_|refine qO ?_|(with_reducible intro z hz);(first|(replace hz:=hz (by omega);subst hz)|subst hz));(try (conv=>whnf))))
     repeat (refine Idx.mk k (spv (f,t)) _ rfl (by simp[hx]) rfl ?_;(try (conv=>whnf));(repeat ((first|refine qT ?_|refine qF ?_|refine qO ?_|(with_reducible intro z hz);(first|(replace hz:=hz (by omega);subst hz)|subst hz));(try (conv=>whnf)))))
     refine ah.mk _ (hC _ _ _ (PCw.of (hQ3))) (fun js hjs=>?_);subst hjs
     (try (conv=>whnf));(repeat ((first|refine qT ?_|refine qF ?_|refine qO ?_|(with_reducible intro z hz);(first|(replace hz:=hz (by omega);subst hz)|subst hz));(try (conv=>whnf))))
     refine⟨k+1,by omega,by dsimp only;omega,?_⟩
     dsimp only[]
     rw[hst]
     exact (qSL 0 rfl rfl)
    ·rw[oJ _ t t1]at hst
     (try (conv=>whnf));(repeat ((first|refine qT ?_|refine qF ?_|refine qO ?_|(with_reducible intro z hz);(first|(replace hz:=hz (by omega);subst hz)|subst hz));(try (conv=>whnf))))
     repeat (refine Idx.mk k (spv (f,t)) _ rfl (by simp[hx]) rfl ?_;(try (conv=>whnf));(repeat ((first|refine qT ?_|refine qF ?_|refine qO ?_|(with_reducible intro z hz);(first|(replace hz:=hz (by omega);subst hz)|subst hz));(try (conv=>whnf)))))
     refine⟨k+1,by omega,by dsimp only;omega,?_⟩
     dsimp only[]
     rw[hst]
     exact (qSL 0 rfl rfl)
   ·rw[qw _ t t0]at hst
    (try (conv=>whnf));(repeat ((first|refine qT ?_|refine qF ?_|refine qO ?_|(with_reducible intro z hz);(first|(replace hz:=hz (by omega);subst hz)|subst hz));(try (conv=>whnf))))
    repeat (refine Idx.mk k (spv (f,t)) _ rfl (by simp[hx]) rfl ?_;(try (conv=>whnf));(repeat ((first|refine qT ?_|refine qF ?_|refine qO ?_|(with_reducible intro z hz);(first|(replace hz:=hz (by omega);subst hz)|subst hz));(try (conv=>whnf)))))
    refine⟨k+1,by omega,by dsimp only;omega,?_⟩
    dsimp only[]
    rw[hst]
    exact (qSL 0 rfl rfl)
 |inr hge=>
  obtain rfl:k=L.length:=by omega
  rw[List.take_length]
  (try (conv=>whnf));(repeat ((first|refine qT ?_|refine qF ?_|refine qO ?_|(with_reducible intro z hz);(first|(replace hz:=hz (by omega);subst hz)|subst hz));(try (conv=>whnf))))
  exact hfin _ (aA.refl _)
end Go.Proofs.YtfjibfdelbodjaaGreat.Pe
namespace Go.Proofs.YtfjibfdelbodjaaGreat.Pe
open Go Go.Pv Go.RowKit
set_option linter.unusedSimpArgs false
open Spans Rm
set_option maxRecDepth 10000
set_option maxHeartbeats 16000000
theorem FY (P:Int→Bool) (zs:List Int):∀k,(dF P zs k).length≤k
 |0=>by simp[dF]
 |k+1=>by
  have ih:=FY P zs k
  unfold dF
  split
  ·have:=oP (dF P zs k) (el zs k,nx zs k);omega
  ·omega
theorem Eu (h:Int) (La Lb:List Sp):dF (opP h La Lb) (pts (La++Lb)) (pts (La++Lb)).length=canon (opP h La Lb)∧Is (canon (opP h La Lb)) (opP h La Lb):=by
 have e:=iD (Ke h La Lb)
 exact⟨e,e ▸ Ke h La Lb⟩
theorem NP (h:Int) (hh:h=0∨h=1∨h=2) (La Lb:List Sp) (ha:La.length≤10000) (hb:Lb.length≤10000):PC Tryz.prog aM 135 [.int .i64 h,.sl 2 (La.map spv),.sl 2 (Lb.map spv)] [.sl 2 ((dF (opP h La Lb) (pts (La++Lb)) (pts (La++Lb)).length).map spv)]:=by
 have hma:(La.map spv).length=La.length:=List.length_map _
 have hmb:(Lb.map spv).length=Lb.length:=List.length_map _
 have hP:=Km (La++Lb) (by rw[List.length_append];omega)
 have hzl:=JZ (La++Lb)
 rw[List.length_append]at hzl
 have hzo:=wu (La++Lb)
 generalize hzs:pts (La++Lb)=zs at *
 have hC0:∀d,PC Tryz.prog aM 174 [.int .i64 h,.sl 2 (La.map spv),.sl 2 (Lb.map spv),.int .i64 d] [.bool (opP h La Lb d)]:=fun d=>Lp h hh La Lb d (by omega) (by omega)
 have hinv:∀k,k≤zs.length→J3 (dF (opP h La Lb) zs k) (bd zs k):=by
  subst hzs
  exact fun k hk=>(vV (opP h La Lb) (pts (La++Lb)) (wu _) (fun k hk d h0 h1=>Ew h La Lb k hk d h0 h1) k hk).2.1
 generalize opP h La Lb=P at *
 refine PC.aj (T:=tb0) ay aH rfl mixed Tryz.func135 rfl rfl (Nat.le_of_ble_eq_true rfl) ?_;intro Γ C WK LP fin h0 hW hC hB hR hLP hfin
 (try (conv=>whnf));(repeat ((first|refine qT ?_|refine qF ?_|refine qO ?_|(with_reducible intro z hz);(first|(replace hz:=hz (by omega);subst hz)|subst hz));(try (conv=>whnf))))
 refine bN.mk ((La++Lb).map spv) (by simp) ?_
 (try (conv=>whnf));(repeat ((first|refine qT ?_|refine qF ?_|refine qO ?_|(with_reducible intro z hz);(first|(replace hz:=hz (by omega);subst hz)|subst hz)|(refine ah.mk _ (hC _ _ _ (PCw.of hP)) (fun js hjs=>?_);subst hjs));(try (conv=>whnf))))
 have hne:∀x:List Sp,((x.map spv).map PV.imm).length=x.length:=fun x=>by simp
 refine hLP _ _ _ Nat (fun k=>⟨[(0,.imm (.int .i64 h)),(1,.imm (.sl 2 (La.map spv))),(2,.imm (.sl 2 (Lb.map spv))),(7,.imm (.sl 1 (zs.map zv))),(8,.row 4 1),(9,.imm (.int .i64 (k:Nat)))],[.dead 3,.dead 0,.dead 0,.dead 0,.row 78 2 1 (((dF P zs k).map spv).map .imm)]⟩) (fun k=>k≤zs.length) (fun k=>zs.length - k) 0 (Nat.zero_le _) (qSL 5 rfl rfl) ?_
 intro k hk
 have hho:=Nat.lt_or_ge k zs.length
 cases hho with
 |inl hlt=>
  obtain⟨z,hx⟩:∃z,zs[k]?=some z:=⟨zs[k],List.getElem?_eq_getElem hlt⟩
  have he:=E9 hx
  have hPz:=hC0 z
  have hend:=hinv k hk
  have hbk:dF P zs (k+1)=if P (el zs k)=true then apS (dF P zs k) (el zs k,nx zs k) else dF P zs k:=rfl
  have hlen:=FY P zs k
  have hpr:=(qj hzo hlt).2.1
  rw[bd,if_pos hlt,he]at hend
  rw[he]at hbk hpr
  rw[nx]at hbk hpr
  cases hb:P z with
  |false=>
   rw[hb]at hPz
   rw[hb,if_neg (by simp)]at hbk
   by_cases h1:k+1 < zs.length
   ·obtain⟨z2,hx2⟩:∃z,zs[k+1]?=some z:=⟨zs[k+1],List.getElem?_eq_getElem h1⟩
    (try (conv=>whnf));(repeat ((first|refine qT ?_|refine qF ?_|refine qO ?_|(with_reducible intro z hz);(first|(replace hz:=hz (by omega);subst hz)|subst hz));(try (conv=>whnf))))
    refine Idx.mk (k+1) (zv z2) _ (by omega) (by simp[hx2]) rfl ?_
    (try (conv=>whnf));(repeat ((first|refine qT ?_|refine qF ?_|refine qO ?_|(with_reducible intro z hz);(first|(replace hz:=hz (by omega);subst hz)|subst hz));(try (conv=>whnf))))
    refine Idx.mk k (zv z) _ rfl (by simp[hx]) rfl ?_
    (try (conv=>whnf));(repeat ((first|refine qT ?_|refine qF ?_|refine qO ?_|(with_reducible intro z hz);(first|(replace hz:=hz (by omega);subst hz)|subst hz)|(refine ah.mk _ (hC _ _ _ (PCw.of hPz)) (fun js hjs=>?_);subst hjs));(try (conv=>whnf))))
    refine⟨k+1,by omega,by dsimp only;omega,?_⟩
    dsimp only[]
    rw[hbk]
    exact (qSL 5 rfl rfl)
   ·(try (conv=>whnf));(repeat ((first|refine qT ?_|refine qF ?_|refine qO ?_|(with_reducible intro z hz);(first|(replace hz:=hz (by omega);subst hz)|subst hz));(try (conv=>whnf))))
    refine Idx.mk k (zv z) _ rfl (by simp[hx]) rfl ?_
    (try (conv=>whnf));(repeat ((first|refine qT ?_|refine qF ?_|refine qO ?_|(with_reducible intro z hz);(first|(replace hz:=hz (by omega);subst hz)|subst hz)|(refine ah.mk _ (hC _ _ _ (PCw.of hPz)) (fun js hjs=>?_);subst hjs));(try (conv=>whnf))))
    refine⟨k+1,by omega,by dsimp only;omega,?_⟩
    dsimp only[]
    rw[hbk]
    exact (qSL 5 rfl rfl)
  |true=>
   rw[hb]at hPz
   rw[hb,if_pos rfl]at hbk
   generalize dF P zs k=R at *
   rcases List.eq_nil_or_concat R with rfl|⟨R0,⟨x,y⟩,rfl⟩
   ·rw[qm]at hbk
    by_cases h1:k+1 < zs.length
    ·obtain⟨z2,hx2⟩:∃z,zs[k+1]?=some z:=⟨zs[k+1],List.getElem?_eq_getElem h1⟩
     rw[if_pos h1,E9 hx2]at hbk
     (try (conv=>whnf));(repeat ((first|refine qT ?_|refine qF ?_|refine qO ?_|(with_reducible intro z hz);(first|(replace hz:=hz (by omega);subst hz)|subst hz));(try (conv=>whnf))))
     refine Idx.mk (k+1) (zv z2) _ (by omega) (by simp[hx2]) rfl ?_
     (try (conv=>whnf));(repeat ((first|refine qT ?_|refine qF ?_|refine qO ?_|(with_reducible intro z hz);(first|(replace hz:=hz (by omega);subst hz)|subst hz));(try (conv=>whnf))))
     refine Idx.mk k (zv z) _ rfl (by simp[hx]) rfl ?_
     (try (conv=>whnf));(repeat ((first|refine qT ?_|refine qF ?_|refine qO ?_|(with_reducible intro z hz);(first|(replace hz:=hz (by omega);subst hz)|subst hz)|(refine ah.mk _ (hC _ _ _ (PCw.of hPz)) (fun js hjs=>?_);subst hjs));(try (conv=>whnf))))
     refine Idx.mk k (zv z) _ rfl (by simp[hx]) rfl ?_
     (try (conv=>whnf));(repeat ((first|refine qT ?_|refine qF ?_|refine qO ?_|(with_reducible intro z hz);(first|(replace hz:=hz (by omega);subst hz)|subst hz));(try (conv=>whnf))))
     refine⟨k+1,by omega,by dsimp only;omega,?_⟩
     dsimp only[]
     rw[hbk]
     exact ((aC.row 4 ((([]++[(z,z2)]).map spv).map .imm) rfl (by simp[spv]))).trans ((aC.renew 4 1 rfl (by first|omega|(intro _;rw[hk0 _ _ rfl];exact Nat.le_of_ble_eq_true rfl)) (by repeat (first|exact trivial|refine And.intro (bA _ _ _ _) ?_|refine And.intro rfl ?_))).trans (qSL 5 rfl rfl))
    ·rw[if_neg h1]at hbk
     (try (conv=>whnf));(repeat ((first|refine qT ?_|refine qF ?_|refine qO ?_|(with_reducible intro z hz);(first|(replace hz:=hz (by omega);subst hz)|subst hz));(try (conv=>whnf))))
     refine Idx.mk k (zv z) _ rfl (by simp[hx]) rfl ?_
     (try (conv=>whnf));(repeat ((first|refine qT ?_|refine qF ?_|refine qO ?_|(with_reducible intro z hz);(first|(replace hz:=hz (by omega);subst hz)|subst hz)|(refine ah.mk _ (hC _ _ _ (PCw.of hPz)) (fun js hjs=>?_);subst hjs));(try (conv=>whnf))))
     refine Idx.mk k (zv z) _ rfl (by simp[hx]) rfl ?_
     (try (conv=>whnf));(repeat ((first|refine qT ?_|refine qF ?_|refine qO ?_|(with_reducible intro z hz);(first|(replace hz:=hz (by omega);subst hz)|subst hz));(try (conv=>whnf))))
     refine⟨k+1,by omega,by dsimp only;omega,?_⟩
     dsimp only[]
     rw[hbk]
     exact ((aC.row 4 ((([]++[((z,1048577):Sp)]).map spv).map .imm) rfl (by simp[spv]))).trans ((aC.renew 4 1 rfl (by first|omega|(intro _;rw[hk0 _ _ rfl];exact Nat.le_of_ble_eq_true rfl)) (by repeat (first|exact trivial|refine And.intro (bA _ _ _ _) ?_|refine And.intro rfl ?_))).trans (qSL 5 rfl rfl))
   ·rw[List.concat_eq_append]at *
    have hyz:y≤z:=hend (x,y) (by simp)
    rw[kN]at hbk
    have hn0:=hne (R0++[(x,y)])
    rw[List.length_append,List.length_singleton]at hn0 hlen
    by_cases hlt2:y < z
    ·rw[if_pos hlt2]at hbk
     by_cases h1:k+1 < zs.length
     ·obtain⟨z2,hx2⟩:∃z,zs[k+1]?=some z:=⟨zs[k+1],List.getElem?_eq_getElem h1⟩
      rw[if_pos h1,E9 hx2]at hbk
      (try (conv=>whnf));(repeat ((first|refine qT ?_|refine qF ?_|refine qO ?_|(with_reducible intro z hz);(first|(replace hz:=hz (by omega);subst hz)|subst hz));(try (conv=>whnf))))
      refine Idx.mk (k+1) (zv z2) _ (by omega) (by simp[hx2]) rfl ?_
      (try (conv=>whnf));(repeat ((first|refine qT ?_|refine qF ?_|refine qO ?_|(with_reducible intro z hz);(first|(replace hz:=hz (by omega);subst hz)|subst hz));(try (conv=>whnf))))
      refine Idx.mk k (zv z) _ rfl (by simp[hx]) rfl ?_
      (try (conv=>whnf));(repeat ((first|refine qT ?_|refine qF ?_|refine qO ?_|(with_reducible intro z hz);(first|(replace hz:=hz (by omega);subst hz)|subst hz)|(refine ah.mk _ (hC _ _ _ (PCw.of hPz)) (fun js hjs=>?_);subst hjs));(try (conv=>whnf))))
      refine Pos.mk R0.length (by omega) (by omega) ?_
      (try (conv=>whnf));(repeat ((first|refine qT ?_|refine qF ?_|refine qO ?_|(with_reducible intro z hz);(first|(replace hz:=hz (by omega);subst hz)|subst hz));(try (conv=>whnf))))
      refine At.mk (.imm (spv (x,y))) (by simp) ?_
      (try (conv=>whnf));(repeat ((first|refine qT ?_|refine qF ?_|refine qO ?_|(with_reducible intro z hz);(first|(replace hz:=hz (by omega);subst hz)|subst hz));(try (conv=>whnf))))
      refine Idx.mk k (zv z) _ rfl (by simp[hx]) rfl ?_
      (try (conv=>whnf));(repeat ((first|refine qT ?_|refine qF ?_|refine qO ?_|(with_reducible intro z hz);(first|(replace hz:=hz (by omega);subst hz)|subst hz));(try (conv=>whnf))))
      refine Idx.mk k (zv z) _ rfl (by simp[hx]) rfl ?_
      (try (conv=>whnf));(repeat ((first|refine qT ?_|refine qF ?_|refine qO ?_|(with_reducible intro z hz);(first|(replace hz:=hz (by omega);subst hz)|subst hz));(try (conv=>whnf))))
      refine⟨k+1,by omega,by dsimp only;omega,?_⟩
      dsimp only[]
      rw[hbk]
      exact ((aC.row 4 ((((R0++[(x,y)])++[(z,z2)]).map spv).map .imm) rfl (by simp[spv]))).trans ((aC.renew 4 1 rfl (by first|omega|(intro _;rw[hk0 _ _ rfl];exact Nat.le_of_ble_eq_true rfl)) (by repeat (first|exact trivial|refine And.intro (bA _ _ _ _) ?_|refine And.intro rfl ?_))).trans (qSL 5 rfl rfl))
     ·rw[if_neg h1]at hbk
      (try (conv=>whnf));(repeat ((first|refine qT ?_|refine qF ?_|refine qO ?_|(with_reducible intro z hz);(first|(replace hz:=hz (by omega);subst hz)|subst hz));(try (conv=>whnf))))
      refine Idx.mk k (zv z) _ rfl (by simp[hx]) rfl ?_
      (try (conv=>whnf));(repeat ((first|refine qT ?_|refine qF ?_|refine qO ?_|(with_reducible intro z hz);(first|(replace hz:=hz (by omega);subst hz)|subst hz)|(refine ah.mk _ (hC _ _ _ (PCw.of hPz)) (fun js hjs=>?_);subst hjs));(try (conv=>whnf))))
      refine Pos.mk R0.length (by omega) (by omega) ?_
      (try (conv=>whnf));(repeat ((first|refine qT ?_|refine qF ?_|refine qO ?_|(with_reducible intro z hz);(first|(replace hz:=hz (by omega);subst hz)|subst hz));(try (conv=>whnf))))
      refine At.mk (.imm (spv (x,y))) (by simp) ?_
      (try (conv=>whnf));(repeat ((first|refine qT ?_|refine qF ?_|refine qO ?_|(with_reducible intro z hz);(first|(replace hz:=hz (by omega);subst hz)|subst hz));(try (conv=>whnf))))
      refine Idx.mk k (zv z) _ rfl (by simp[hx]) rfl ?_
      (try (conv=>whnf));(repeat ((first|refine qT ?_|refine qF ?_|refine qO ?_|(with_reducible intro z hz);(first|(replace hz:=hz (by omega);subst hz)|subst hz));(try (conv=>whnf))))
      refine Idx.mk k (zv z) _ rfl (by simp[hx]) rfl ?_
      (try (conv=>whnf));(repeat ((first|refine qT ?_|refine qF ?_|refine qO ?_|(with_reducible intro z hz);(first|(replace hz:=hz (by omega);subst hz)|subst hz));(try (conv=>whnf))))
      refine⟨k+1,by omega,by dsimp only;omega,?_⟩
      dsimp only[]
      rw[hbk]
      exact ((aC.row 4 ((((R0++[(x,y)])++[((z,1048577):Sp)]).map spv).map .imm) rfl (by simp[spv]))).trans ((aC.renew 4 1 rfl (by first|omega|(intro _;rw[hk0 _ _ rfl];exact Nat.le_of_ble_eq_true rfl)) (by repeat (first|exact trivial|refine And.intro (bA _ _ _ _) ?_|refine And.intro rfl ?_))).trans (qSL 5 rfl rfl))
    ·have hzy:z=y:=by omega
     subst hzy
     rw[if_neg hlt2]at hbk
     by_cases h1:k+1 < zs.length
     ·obtain⟨z2,hx2⟩:∃z,zs[k+1]?=some z:=⟨zs[k+1],List.getElem?_eq_getElem h1⟩
      rw[if_pos h1,E9 hx2]at hbk hpr
      (try (conv=>whnf));(repeat ((first|refine qT ?_|refine qF ?_|refine qO ?_|(with_reducible intro z hz);(first|(replace hz:=hz (by omega);subst hz)|subst hz));(try (conv=>whnf))))
      refine Idx.mk (k+1) (zv z2) _ (by omega) (by simp[hx2]) rfl ?_
      (try (conv=>whnf));(repeat ((first|refine qT ?_|refine qF ?_|refine qO ?_|(with_reducible intro z hz);(first|(replace hz:=hz (by omega);subst hz)|subst hz));(try (conv=>whnf))))
      refine Idx.mk k (zv z) _ rfl (by simp[hx]) rfl ?_
      (try (conv=>whnf));(repeat ((first|refine qT ?_|refine qF ?_|refine qO ?_|(with_reducible intro z hz);(first|(replace hz:=hz (by omega);subst hz)|subst hz)|(refine ah.mk _ (hC _ _ _ (PCw.of hPz)) (fun js hjs=>?_);subst hjs));(try (conv=>whnf))))
      refine Pos.mk R0.length (by omega) (by omega) ?_
      (try (conv=>whnf));(repeat ((first|refine qT ?_|refine qF ?_|refine qO ?_|(with_reducible intro z hz);(first|(replace hz:=hz (by omega);subst hz)|subst hz));(try (conv=>whnf))))
      refine At.mk (.imm (spv (x,z))) (by simp) ?_
      (try (conv=>whnf));(repeat ((first|refine qT ?_|refine qF ?_|refine qO ?_|(with_reducible intro z hz);(first|(replace hz:=hz (by omega);subst hz)|subst hz));(try (conv=>whnf))))
      refine Idx.mk k (zv z) _ rfl (by simp[hx]) rfl ?_
      (try (conv=>whnf));(repeat ((first|refine qT ?_|refine qF ?_|refine qO ?_|(with_reducible intro z hz);(first|(replace hz:=hz (by omega);subst hz)|subst hz));(try (conv=>whnf))))
      refine Pos.mk R0.length (by omega) (by omega) ?_
      (try (conv=>whnf));(repeat ((first|refine qT ?_|refine qF ?_|refine qO ?_|(with_reducible intro z hz);(first|(replace hz:=hz (by omega);subst hz)|subst hz));(try (conv=>whnf))))
      refine At.mk (.imm (spv (x,z))) (by simp) ?_
      (try (conv=>whnf));(repeat ((first|refine qT ?_|refine qF ?_|refine qO ?_|(with_reducible intro z hz);(first|(replace hz:=hz (by omega);subst hz)|subst hz));(try (conv=>whnf))))
      refine⟨k+1,by omega,by dsimp only;omega,?_⟩
      dsimp only[]at hbk ⊢
      rw[hbk,show max z z2=z2 by omega]
      exact ((aC.row 4 (((R0++[(x,z2)]).map spv).map .imm) rfl (by simp[spv];rfl))).trans (qSL 5 rfl rfl)
     ·rw[if_neg h1]at hbk hpr
      (try (conv=>whnf));(repeat ((first|refine qT ?_|refine qF ?_|refine qO ?_|(with_reducible intro z hz);(first|(replace hz:=hz (by omega);subst hz)|subst hz));(try (conv=>whnf))))
      refine Idx.mk k (zv z) _ rfl (by simp[hx]) rfl ?_
      (try (conv=>whnf));(repeat ((first|refine qT ?_|refine qF ?_|refine qO ?_|(with_reducible intro z hz);(first|(replace hz:=hz (by omega);subst hz)|subst hz)|(refine ah.mk _ (hC _ _ _ (PCw.of hPz)) (fun js hjs=>?_);subst hjs));(try (conv=>whnf))))
      refine Pos.mk R0.length (by omega) (by omega) ?_
      (try (conv=>whnf));(repeat ((first|refine qT ?_|refine qF ?_|refine qO ?_|(with_reducible intro z hz);(first|(replace hz:=hz (by omega);subst hz)|subst hz));(try (conv=>whnf))))
      refine At.mk (.imm (spv (x,z))) (by simp) ?_
      (try (conv=>whnf));(repeat ((first|refine qT ?_|refine qF ?_|refine qO ?_|(with_reducible intro z hz);(first|(replace hz:=hz (by omega);subst hz)|subst hz));(try (conv=>whnf))))
      refine Idx.mk k (zv z) _ rfl (by simp[hx]) rfl ?_
      (try (conv=>whnf));(repeat ((first|refine qT ?_|refine qF ?_|refine qO ?_|(with_reducible intro z hz);(first|(replace hz:=hz (by omega);subst hz)|subst hz));(try (conv=>whnf))))
      refine Pos.mk R0.length (by omega) (by omega) ?_
      (try (conv=>whnf));(repeat ((first|refine qT ?_|refine qF ?_|refine qO ?_|(with_reducible intro z hz);(first|(replace hz:=hz (by omega);subst hz)|subst hz));(try (conv=>whnf))))
      refine At.mk (.imm (spv (x,z))) (by simp) ?_
      (try (conv=>whnf));(repeat ((first|refine qT ?_|refine qF ?_|refine qO ?_|(with_reducible intro z hz);(first|(replace hz:=hz (by omega);subst hz)|subst hz));(try (conv=>whnf))))
      refine⟨k+1,by omega,by dsimp only;omega,?_⟩
      dsimp only[]at hbk ⊢
      rw[hbk,show max z 1048577=1048577 by omega]
      exact ((aC.row 4 (((R0++[((x,1048577):Sp)]).map spv).map .imm) rfl (by simp[spv];rfl))).trans (qSL 5 rfl rfl)
 |inr hge=>
  obtain rfl:k=zs.length:=by omega
  (try (conv=>whnf));(repeat ((first|refine qT ?_|refine qF ?_|refine qO ?_|(with_reducible intro z hz);(first|(replace hz:=hz (by omega);subst hz)|subst hz));(try (conv=>whnf))))
  refine bN.mk ((dF P zs zs.length).map spv) rfl ?_
  exact hfin _ (aA.refl _)
theorem gX {P Q:Int→Bool} (h:∀d,0≤d→d≤1048576→P d=Q d):canon P=canon Q:=by
 by_cases hP:∃R,Is R P
 ·obtain⟨R,hR⟩:=hP
  rw[←iD hR,←iD (hR.congr h)]
 ·have hQ:¬∃R,Is R Q:=fun ⟨R,hR⟩=>hP ⟨R,hR.congr fun d h0 h1=>(h d h0 h1).symm⟩
  unfold canon
  rw[dif_neg hP,dif_neg hQ]
theorem Cc (h:Int) (hh:h=0∨h=1∨h=2) (La Lb:List Sp) (ha:La.length≤10000) (hb:Lb.length≤10000):PC Tryz.prog aM 135 [.int .i64 h,.sl 2 (La.map spv),.sl 2 (Lb.map spv)] [.sl 2 ((canon (opP h La Lb)).map spv)]:=by
 have:=NP h hh La Lb ha hb
 rwa [(Eu h La Lb).1]at this
theorem PC.arg {P:Program} {X:Env} {f:FuncId} {args args' res:List IV} (h:PC P X f args' res) (hl:aA args args'):PC P X f args res:=
 ⟨h.1,fun Q w vs hQ hg hX hvs=>h.2 Q w vs hQ hg hX (hl.rep hvs)⟩
theorem Nz (L:List Sp) (hl:L.length≤10000):PC Tryz.prog aM 172 [.sl 2 (L.map spv)] [.sl 2 ((canon (aK L)).map spv)]:=by
 have h:=Cc 0 (Or.inl rfl) L [] hl (by simp)
 rw[show canon (opP 0 L [])=canon (aK L) from gX fun d h0 h1=>by rw[op0 L [] d h0 h1];simp[aK]]at h
 have h:=PC.arg (args:=[.int .i64 0,.sl 2 (L.map spv),.nil]) h (.cons (ILe.refl _) (.cons (ILe.refl _) (.cons (ILe.nil _) (.refl _))))
 refine PC.aj (T:=tb0) ay aH rfl mixed Tryz.func172 rfl rfl (Nat.le_of_ble_eq_true rfl) ?_;intro Γ C WK LP fin h0 hW hC hB hR hLP hfin
 (try (conv=>whnf));(repeat ((first|refine qT ?_|refine qF ?_|refine qO ?_|(with_reducible intro z hz);(first|(replace hz:=hz (by omega);subst hz)|subst hz)|(refine ah.mk _ (hC _ _ _ (PCw.of h)) (fun js hjs=>?_);subst hjs));(try (conv=>whnf))))
 exact hfin _ (aA.refl _)
theorem JN (d:Int):PC Tryz.prog aM 133 [.int .i64 d] [.sl 2 ((canon (aK [(d,1048577)])).map spv)]:=by
 have h:=Nz [(d,1048577)] (by simp)
 refine PC.aj (T:=tb0) ay aH rfl mixed Tryz.func133 rfl rfl (Nat.le_of_ble_eq_true rfl) ?_;intro Γ C WK LP fin h0 hW hC hB hR hLP hfin
 (try (conv=>whnf));(repeat ((first|refine qT ?_|refine qF ?_|refine qO ?_|(with_reducible intro z hz);(first|(replace hz:=hz (by omega);subst hz)|subst hz));(try (conv=>whnf))))
 refine bN.mk [spv (d,1048577)] rfl ?_
 (try (conv=>whnf));(repeat ((first|refine qT ?_|refine qF ?_|refine qO ?_|(with_reducible intro z hz);(first|(replace hz:=hz (by omega);subst hz)|subst hz)|(refine ah.mk _ (hC _ _ _ (PCw.of h)) (fun js hjs=>?_);subst hjs));(try (conv=>whnf))))
 exact hfin _ (aA.refl _)
theorem DN (L:List Sp) (t:Int) (hl:L.length≤10000):PC Tryz.prog aM 90 [.sl 2 (L.map spv),.int .i64 t] [.sl 2 ((canon fun d=>aK L d&&aK [(0,t)] d).map spv)]:=by
 have h:=Cc 1 (Or.inr (Or.inl rfl)) L [(0,t)] hl (by simp)
 rw[gX (op1 L [(0,t)])]at h
 refine PC.aj (T:=tb0) ay aH rfl mixed Tryz.func90 rfl rfl (Nat.le_of_ble_eq_true rfl) ?_;intro Γ C WK LP fin h0 hW hC hB hR hLP hfin
 (try (conv=>whnf));(repeat ((first|refine qT ?_|refine qF ?_|refine qO ?_|(with_reducible intro z hz);(first|(replace hz:=hz (by omega);subst hz)|subst hz));(try (conv=>whnf))))
 refine bN.mk [spv (0,t)] rfl ?_
 (try (conv=>whnf));(repeat ((first|refine qT ?_|refine qF ?_|refine qO ?_|(with_reducible intro z hz);(first|(replace hz:=hz (by omega);subst hz)|subst hz)|(refine ah.mk _ (hC _ _ _ (PCw.of h)) (fun js hjs=>?_);subst hjs));(try (conv=>whnf))))
 exact hfin _ (aA.refl _)
theorem Ma (L:List Sp) (t:Int) (hl:L.length≤10000) (hl2:(canon fun d=>aK L d&&aK [(0,t)] d).length≤10000):PC Tryz.prog aM 89 [.sl 2 (L.map spv),.int .i64 t] [.sl 2 ((canon fun d=>aK L d||aK [(t,1048577)] d).map spv)]:=by
 have hu:=DN L t hl
 have hi:Is (canon fun d=>aK L d&&aK [(0,t)] d) (fun d=>aK L d&&aK [(0,t)] d):=(Eu 1 L [(0,t)]).2.congr (op1 L [(0,t)]) |> fun x=>by
  have:=gX (op1 L [(0,t)])
  rw[this]at x
  exact x
 generalize canon (fun d=>aK L d&&aK [(0,t)] d)=U at *
 have hv:∀d,0≤d→d≤1048576→aK U d=(aK L d&&aK [(0,t)] d):=hi.2
 have h:=Cc 0 (Or.inl rfl) U [(t,1048577)] hl2 (by simp)
 rw[show canon (opP 0 U [(t,1048577)])=canon (fun d=>aK L d||aK [(t,1048577)] d) from gX fun d h0 h1=>by
  rw[op0 U [(t,1048577)] d h0 h1,hv d h0 h1,yZ d t h0,oU d t h1]
  cases aK L d<;>cases decide (d < t)<;>rfl]at h
 refine PC.aj (T:=tb0) ay aH rfl mixed Tryz.func89 rfl rfl (Nat.le_of_ble_eq_true rfl) ?_;intro Γ C WK LP fin h0 hW hC hB hR hLP hfin
 (try (conv=>whnf));(repeat ((first|refine qT ?_|refine qF ?_|refine qO ?_|(with_reducible intro z hz);(first|(replace hz:=hz (by omega);subst hz)|subst hz)|(refine ah.mk _ (hC _ _ _ (PCw.of hu)) (fun js hjs=>?_);subst hjs));(try (conv=>whnf))))
 refine bN.mk [spv (t,1048577)] rfl ?_
 (try (conv=>whnf));(repeat ((first|refine qT ?_|refine qF ?_|refine qO ?_|(with_reducible intro z hz);(first|(replace hz:=hz (by omega);subst hz)|subst hz)|(refine ah.mk _ (hC _ _ _ (PCw.of h)) (fun js hjs=>?_);subst hjs));(try (conv=>whnf))))
 exact hfin _ (aA.refl _)
theorem U8 {a b:Sp} (h:a=b):eqC [.int .i64 a.1,.int .i64 a.2] [.int .i64 b.1,.int .i64 b.2]=true:=by subst h;simp[eqC]
theorem Ve {a b:Sp} (h:a≠b):¬eqC [.int .i64 a.1,.int .i64 a.2] [.int .i64 b.1,.int .i64 b.2]=true:=fun e=>h (by
 obtain⟨x,y⟩:=a
 obtain⟨x2,y2⟩:=b
 simpa[eqC]using e)
end Go.Proofs.YtfjibfdelbodjaaGreat.Pe
