/-
  The days in force, by the reference.
-/
import Derived.Test.YtfjibfdelbodjaaGreatNd
namespace Go.Proofs.YtfjibfdelbodjaaGreat.Pe
open Go Go.Pv Go.RowKit
set_option linter.unusedSimpArgs false
open Spans Rm
set_option maxRecDepth 10000
set_option maxHeartbeats 16000000
theorem KO (a:St) (e:En) (l:List En) (hl:l.length≤1000):PC Tryz.prog aM 63 [stv a,cu e,.sl 28 (l.map cu)] [.sl 2 ((bC a e l).map spv)]:=by
 have hml:(l.map cu).length=l.length:=List.length_map _
 unfold bC
 by_cases hk0:0≤e.it.kind
 rotate_left
 ·rw[if_neg (fun h=>hk0 h.1)]
  rw[mo e]
  unfold stv
  refine PC.aj (T:=tb0) ay aH rfl mixed Tryz.func63 rfl rfl (Nat.le_of_ble_eq_true rfl) ?_;intro Γ C WK LP fin h0 hW hC hB hR hLP hfin
  (try (conv=>whnf));(repeat ((first|refine qT ?_|refine qF ?_|refine qO ?_|(with_reducible intro z hz);(first|(replace hz:=hz (by omega);subst hz)|subst hz));(try (conv=>whnf))))
  refine bN.mk [] rfl ?_
  exact hfin _ (aA.refl _)
 by_cases hk6:e.it.kind≤6
 rotate_left
 ·rw[if_neg (fun h=>hk6 h.2)]
  rw[mo e]
  unfold stv
  refine PC.aj (T:=tb0) ay aH rfl mixed Tryz.func63 rfl rfl (Nat.le_of_ble_eq_true rfl) ?_;intro Γ C WK LP fin h0 hW hC hB hR hLP hfin
  (try (conv=>whnf));(repeat ((first|refine qT ?_|refine qF ?_|refine qO ?_|(with_reducible intro z hz);(first|(replace hz:=hz (by omega);subst hz)|subst hz));(try (conv=>whnf))))
  refine bN.mk [] rfl ?_
  exact hfin _ (aA.refl _)
 rw[if_pos ⟨hk0,hk6⟩]
 have hX:=P6 a e.it.st
 have hI:=KM (uK a e.it.st) l (by omega)
 generalize hr:uK a e.it.st=r at *
 have hP0:=jL (stD r l)
 generalize pE (stD r l)=P0 at *
 rw[mo e]
 unfold stv at *
 refine PC.aj (T:=tb0) ay aH rfl mixed Tryz.func63 rfl rfl (Nat.le_of_ble_eq_true rfl) ?_;intro Γ C WK LP fin h0 hW hC hB hR hLP hfin
 (try (conv=>whnf));(repeat ((first|refine qT ?_|refine qF ?_|refine qO ?_|(with_reducible intro z hz);(first|(replace hz:=hz (by omega);subst hz)|subst hz)|(refine ah.mk _ (hC _ _ _ (PCw.of hX)) (fun js hjs=>?_);subst hjs)|(refine ah.mk _ (hC _ _ _ (PCw.of hI)) (fun js hjs=>?_);subst hjs));(try (conv=>whnf))))
 refine hLP _ _ _ Nat (fun k=>⟨[(2,.imm (.sl 28 (l.map cu))),(4,.ptr 1 1 0),(7,.imm (.sl 2 ((canon (jF P0 e (l.take k))).map spv))),(8,.imm (.int .i64 (k:Nat)))],[bxS a,bxE e]⟩) (fun k=>k≤l.length) (fun k=>l.length - k) 0 (Nat.zero_le _) (qSL 2 rfl rfl) ?_
 intro k hk
 have hho:=Nat.lt_or_ge k l.length
 cases hho with
 |inl hlt=>
  obtain⟨x,hx⟩:∃x,l[k]?=some x:=⟨l[k],List.getElem?_eq_getElem hlt⟩
  have hst:=zx (P:=P0) (e:=e) hx
  have hPk:jU (jF P0 e (l.take k)) (1+(l.take k).length):=kW hP0
  rw[List.length_take,Nat.min_eq_left hk]at hPk
  generalize jF P0 e (l.take k)=P at *
  have hRf:=Oa x.it e.act e.item
  rw[Ol]at hRf
  have hlen:=hPk.2
  cases hr:refers x.it e.act e.item with
  |false=>
   rw[hr]at hRf
   rw[BO hr]at hst
   (try (conv=>whnf));(repeat ((first|refine qT ?_|refine qF ?_|refine qO ?_|(with_reducible intro z hz);(first|(replace hz:=hz (by omega);subst hz)|subst hz));(try (conv=>whnf))))
   refine Idx.mk k (cu x) _ rfl (by simp[hx]) rfl ?_
   (try (conv=>whnf));(repeat ((first|refine qT ?_|refine qF ?_|refine qO ?_|(with_reducible intro z hz);(first|(replace hz:=hz (by omega);subst hz)|subst hz)|(refine ah.mk _ (hC _ _ _ (PCw.of hRf)) (fun js hjs=>?_);subst hjs));(try (conv=>whnf))))
   refine⟨k+1,by omega,by dsimp only;omega,?_⟩
   dsimp only[]
   rw[hst]
   exact (qSL 2 rfl rfl)
  |true=>
   rw[hr]at hRf
   by_cases h7:x.it.kind=7∨x.it.kind=9
   ·rw[EU hr h7]at hst
    have ht2:=(hPk.trunc x.it.d).2
    have hX2:=Ma (canon P) x.it.d (by omega) (by rw[nO hPk];omega)
    rw[AY hPk]at hX2
    rcases h7 with h7|h7
    ·(try (conv=>whnf));(repeat ((first|refine qT ?_|refine qF ?_|refine qO ?_|(with_reducible intro z hz);(first|(replace hz:=hz (by omega);subst hz)|subst hz));(try (conv=>whnf))))
     refine Idx.mk k (cu x) _ rfl (by simp[hx]) rfl ?_
     (try (conv=>whnf));(repeat ((first|refine qT ?_|refine qF ?_|refine qO ?_|(with_reducible intro z hz);(first|(replace hz:=hz (by omega);subst hz)|subst hz)|(refine ah.mk _ (hC _ _ _ (PCw.of hRf)) (fun js hjs=>?_);subst hjs)|(refine ah.mk _ (hC _ _ _ (PCw.of hX2)) (fun js hjs=>?_);subst hjs));(try (conv=>whnf))))
     refine⟨k+1,by omega,by dsimp only;omega,?_⟩
     dsimp only[]
     rw[hst]
     exact (qSL 2 rfl rfl)
    ·(try (conv=>whnf));(repeat ((first|refine qT ?_|refine qF ?_|refine qO ?_|(with_reducible intro z hz);(first|(replace hz:=hz (by omega);subst hz)|subst hz));(try (conv=>whnf))))
     refine Idx.mk k (cu x) _ rfl (by simp[hx]) rfl ?_
     (try (conv=>whnf));(repeat ((first|refine qT ?_|refine qF ?_|refine qO ?_|(with_reducible intro z hz);(first|(replace hz:=hz (by omega);subst hz)|subst hz)|(refine ah.mk _ (hC _ _ _ (PCw.of hRf)) (fun js hjs=>?_);subst hjs)|(refine ah.mk _ (hC _ _ _ (PCw.of hX2)) (fun js hjs=>?_);subst hjs));(try (conv=>whnf))))
     refine⟨k+1,by omega,by dsimp only;omega,?_⟩
     dsimp only[]
     rw[hst]
     exact (qSL 2 rfl rfl)
   by_cases h8:x.it.kind=8
   ·rw[xL hr h8]at hst
    have hX2:=DN (canon P) x.it.d (by omega)
    rw[nO hPk]at hX2
    (try (conv=>whnf));(repeat ((first|refine qT ?_|refine qF ?_|refine qO ?_|(with_reducible intro z hz);(first|(replace hz:=hz (by omega);subst hz)|subst hz));(try (conv=>whnf))))
    refine Idx.mk k (cu x) _ rfl (by simp[hx]) rfl ?_
    (try (conv=>whnf));(repeat ((first|refine qT ?_|refine qF ?_|refine qO ?_|(with_reducible intro z hz);(first|(replace hz:=hz (by omega);subst hz)|subst hz)|(refine ah.mk _ (hC _ _ _ (PCw.of hRf)) (fun js hjs=>?_);subst hjs)|(refine ah.mk _ (hC _ _ _ (PCw.of hX2)) (fun js hjs=>?_);subst hjs));(try (conv=>whnf))))
    refine⟨k+1,by omega,by dsimp only;omega,?_⟩
    dsimp only[]
    rw[hst]
    exact (qSL 2 rfl rfl)
   rw[wV (by omega) h8 (by omega)]at hst
   (try (conv=>whnf));(repeat ((first|refine qT ?_|refine qF ?_|refine qO ?_|(with_reducible intro z hz);(first|(replace hz:=hz (by omega);subst hz)|subst hz));(try (conv=>whnf))))
   refine Idx.mk k (cu x) _ rfl (by simp[hx]) rfl ?_
   (try (conv=>whnf));(repeat ((first|refine qT ?_|refine qF ?_|refine qO ?_|(with_reducible intro z hz);(first|(replace hz:=hz (by omega);subst hz)|subst hz)|(refine ah.mk _ (hC _ _ _ (PCw.of hRf)) (fun js hjs=>?_);subst hjs));(try (conv=>whnf))))
   refine⟨k+1,by omega,by dsimp only;omega,?_⟩
   dsimp only[]
   rw[hst]
   exact (qSL 2 rfl rfl)
 |inr hge=>
  obtain rfl:k=l.length:=by omega
  rw[List.take_length]
  (try (conv=>whnf));(repeat ((first|refine qT ?_|refine qF ?_|refine qO ?_|(with_reducible intro z hz);(first|(replace hz:=hz (by omega);subst hz)|subst hz));(try (conv=>whnf))))
  exact hfin _ (aA.refl _)
end Go.Proofs.YtfjibfdelbodjaaGreat.Pe
