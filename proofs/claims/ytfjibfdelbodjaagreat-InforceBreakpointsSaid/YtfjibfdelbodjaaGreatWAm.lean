/-
  Contains; orders and declarations that are appended (mathematics of the laws).
-/
import Derived.Test.YtfjibfdelbodjaaGreatWAl
namespace Go.Proofs.YtfjibfdelbodjaaGreat.Pe
open Go Go.Pv Go.RowKit
set_option linter.unusedSimpArgs false
open Spans Rm
set_option maxRecDepth 10000
set_option maxHeartbeats 16000000
def inS (d:Int) (s:Sp):Bool:=decide (s.1≤d∧d < s.2)
theorem M7 (L:List Sp) (d:Int):aK L d=L.any (inS d):=by
 induction L with
 |nil=>rfl
 |cons s r ih=>rw[aK,ih];rfl
theorem QE (d:Int) (s:Sp):PCB Tryz.prog aM 66 [.imm (spv s),.ptr 0 1 0] [.box 1 [.imm (.int .i64 d)]] [.imm (.bool (inS d s))] [.box 1 [.imm (.int .i64 d)]]:=by
 unfold spv inS
 by_cases h1:s.1≤d
 ·by_cases h2:d < s.2
  ·rw[decide_eq_true ⟨h1,h2⟩]
   refine PCB.aj (T:=tb0) ay aH rfl mixed Tryz.func66 rfl rfl rfl (Nat.le_of_ble_eq_true rfl) rfl ?_;intro Γ C WK LP fin h0 hk0 hW hC hB hR hLP hfin
   (try (conv=>whnf));(repeat ((first|refine qT ?_|refine qF ?_|refine qO ?_|(with_reducible intro z hz);(first|(replace hz:=hz (by omega);subst hz)|subst hz));(try (conv=>whnf))))
   exact hfin _ (qSL 1 rfl rfl)
  ·rw[decide_eq_false (fun h=>h2 h.2)]
   refine PCB.aj (T:=tb0) ay aH rfl mixed Tryz.func66 rfl rfl rfl (Nat.le_of_ble_eq_true rfl) rfl ?_;intro Γ C WK LP fin h0 hk0 hW hC hB hR hLP hfin
   (try (conv=>whnf));(repeat ((first|refine qT ?_|refine qF ?_|refine qO ?_|(with_reducible intro z hz);(first|(replace hz:=hz (by omega);subst hz)|subst hz));(try (conv=>whnf))))
   exact hfin _ (qSL 1 rfl rfl)
 ·rw[decide_eq_false (fun h=>h1 h.1)]
  refine PCB.aj (T:=tb0) ay aH rfl mixed Tryz.func66 rfl rfl rfl (Nat.le_of_ble_eq_true rfl) rfl ?_;intro Γ C WK LP fin h0 hk0 hW hC hB hR hLP hfin
  (try (conv=>whnf));(repeat ((first|refine qT ?_|refine qF ?_|refine qO ?_|(with_reducible intro z hz);(first|(replace hz:=hz (by omega);subst hz)|subst hz));(try (conv=>whnf))))
  exact hfin _ (qSL 1 rfl rfl)
theorem Rp (d:Int) (l:List Sp) (hl:l.length≤1000000000):PCB Tryz.prog aM 91 [.imm (.sl 2 (l.map spv)),.clo 66 [.ptr 0 1 0]] [.box 1 [.imm (.int .i64 d)]] [.imm (.int .i64 (Go.Proofs.YtfjibfdelbodjaaGreat.Pe.idxOf (inS d) l))] [.box 1 [.imm (.int .i64 d)]]:=by
 have hml:(l.map spv).length=l.length:=List.length_map _
 refine PCB.aj (T:=tb0) ay aH rfl mixed Tryz.func91 rfl rfl rfl (Nat.le_of_ble_eq_true rfl) rfl ?_;intro Γ C WK LP fin h0 hk0 hW hC hB hR hLP hfin
 (try (conv=>whnf));(repeat ((first|refine qT ?_|refine qF ?_|refine qO ?_|(with_reducible intro z hz);(first|(replace hz:=hz (by omega);subst hz)|subst hz));(try (conv=>whnf))))
 refine hLP _ _ _ Nat (fun k=>⟨[(0,.imm (.sl 2 (l.map spv))),(1,.clo 66 [.ptr 0 1 0]),(7,.imm (.int .i64 (l.length:Nat))),(8,.imm (.int .i64 (k:Nat)))],[.box 1 [.imm (.int .i64 d)]]⟩) (fun k=>k≤l.length∧∀x∈l.take k,inS d x=false) (fun k=>l.length - k) 0 ⟨Nat.zero_le _,by simp⟩ (qSL 1 rfl rfl (hE:=by (repeat ((conv=>whnf);first|exact trivial|refine And.intro (by first|exact av.any|exact av.eq (by with_reducible rfl) rfl|exact av.eq (congrArg (fun z=>PV.imm (IV.int IntKind.i64 z)) (by first|omega|(simp[hml];done)|(simp[hml];omega))) rfl|exact av.eq (by first|(simp[hml];done)|fail) rfl|exact av.eq rfl rfl|exact av.le rfl (ILe.nil _)) ?_)))) ?_
 rintro k ⟨hk,hp⟩
 have hho:=Nat.lt_or_ge k l.length
 cases hho with
 |inl hlt=>
  obtain⟨x,hx⟩:∃x,l[k]?=some x:=⟨l[k],List.getElem?_eq_getElem hlt⟩
  have hI:=QE d x
  obtain⟨b,hq⟩:∃b,inS d x=b:=⟨_,rfl⟩
  rw[hq]at hI
  unfold spv at hI
  cases b
  ·(try (conv=>whnf));(repeat ((first|refine qT ?_|refine qF ?_|refine qO ?_|(with_reducible intro z hz);(first|(replace hz:=hz (by omega);subst hz)|subst hz));(try (conv=>whnf))))
   refine Idx.mk k (spv x) _ rfl (by simp[hx]) rfl ?_
   (try (conv=>whnf));(repeat ((first|refine qT ?_|refine qF ?_|refine qO ?_|(with_reducible intro z hz);(first|(replace hz:=hz (by omega);subst hz)|subst hz));(try (conv=>whnf))))
   refine bV.mk ([.imm (.bool false)]) ([.box 1 [.imm (.int .i64 d)]]) (hB _ _ _ _ _ (hI)) ?_
   (try (conv=>whnf));(repeat ((first|refine qT ?_|refine qF ?_|refine qO ?_|(with_reducible intro z hz);(first|(replace hz:=hz (by omega);subst hz)|subst hz));(try (conv=>whnf))))
   exact⟨k+1,⟨by omega,fun y hy=>by
    rw[take_at hx,List.mem_append]at hy
    rcases hy with hy|hy
    ·exact hp y hy
    ·rw[List.mem_singleton.1 hy];exact hq⟩,by dsimp only;omega,(qSL 1 rfl rfl)⟩
  ·(try (conv=>whnf));(repeat ((first|refine qT ?_|refine qF ?_|refine qO ?_|(with_reducible intro z hz);(first|(replace hz:=hz (by omega);subst hz)|subst hz));(try (conv=>whnf))))
   refine Idx.mk k (spv x) _ rfl (by simp[hx]) rfl ?_
   (try (conv=>whnf));(repeat ((first|refine qT ?_|refine qF ?_|refine qO ?_|(with_reducible intro z hz);(first|(replace hz:=hz (by omega);subst hz)|subst hz));(try (conv=>whnf))))
   refine bV.mk ([.imm (.bool true)]) ([.box 1 [.imm (.int .i64 d)]]) (hB _ _ _ _ _ (hI)) ?_
   (try (conv=>whnf));(repeat ((first|refine qT ?_|refine qF ?_|refine qO ?_|(with_reducible intro z hz);(first|(replace hz:=hz (by omega);subst hz)|subst hz));(try (conv=>whnf))))
   rw[idxOf_hit hx hq hp]at hfin
   exact hfin _ (qSL 1 rfl rfl)
 |inr hge=>
  (try (conv=>whnf));(repeat ((first|refine qT ?_|refine qF ?_|refine qO ?_|(with_reducible intro z hz);(first|(replace hz:=hz (by omega);subst hz)|subst hz));(try (conv=>whnf))))
  obtain rfl:k=l.length:=by omega
  rw[List.take_length]at hp
  rw[jN hp]at hfin
  exact hfin _ (qSL 1 rfl rfl)
theorem Sj (d:Int) (l:List Sp) (hl:l.length≤1000000000):PCB Tryz.prog aM 65 [.imm (.sl 2 (l.map spv)),.clo 66 [.ptr 0 1 0]] [.box 1 [.imm (.int .i64 d)]] [.imm (.bool (l.any (inS d)))] [.box 1 [.imm (.int .i64 d)]]:=by
 have hI:=Rp d l hl
 cases hq:l.any (inS d) with
 |true=>
  unfold Go.Proofs.YtfjibfdelbodjaaGreat.Pe.idxOf at hI
  rw[if_pos hq]at hI
  refine PCB.aj (T:=tb0) ay aH rfl mixed Tryz.func65 rfl rfl rfl (Nat.le_of_ble_eq_true rfl) rfl ?_;intro Γ C WK LP fin h0 hk0 hW hC hB hR hLP hfin
  (try (conv=>whnf));(repeat ((first|refine qT ?_|refine qF ?_|refine qO ?_|(with_reducible intro z hz);(first|(replace hz:=hz (by omega);subst hz)|subst hz));(try (conv=>whnf))))
  refine bV.mk ([.imm (.int .i64 (List.findIdx (inS d) l:Nat))]) ([.box 1 [.imm (.int .i64 d)]]) (hB _ _ _ _ _ (hI)) ?_
  (try (conv=>whnf));(repeat ((first|refine qT ?_|refine qF ?_|refine qO ?_|(with_reducible intro z hz);(first|(replace hz:=hz (by omega);subst hz)|subst hz));(try (conv=>whnf))))
  exact hfin _ (qSL 1 rfl rfl)
 |false=>
  unfold Go.Proofs.YtfjibfdelbodjaaGreat.Pe.idxOf at hI
  rw[hq,if_neg (by simp)]at hI
  refine PCB.aj (T:=tb0) ay aH rfl mixed Tryz.func65 rfl rfl rfl (Nat.le_of_ble_eq_true rfl) rfl ?_;intro Γ C WK LP fin h0 hk0 hW hC hB hR hLP hfin
  (try (conv=>whnf));(repeat ((first|refine qT ?_|refine qF ?_|refine qO ?_|(with_reducible intro z hz);(first|(replace hz:=hz (by omega);subst hz)|subst hz));(try (conv=>whnf))))
  refine bV.mk ([.imm (.int .i64 (-1))]) ([.box 1 [.imm (.int .i64 d)]]) (hB _ _ _ _ _ (hI)) ?_
  (try (conv=>whnf));(repeat ((first|refine qT ?_|refine qF ?_|refine qO ?_|(with_reducible intro z hz);(first|(replace hz:=hz (by omega);subst hz)|subst hz));(try (conv=>whnf))))
  exact hfin _ (qSL 1 rfl rfl)
theorem DR (L:List Sp) (d:Int) (hl:L.length≤1000000000):PC Tryz.prog aM 39 [.sl 2 (L.map spv),.int .i64 d] [.bool (eU L d)]:=by
 have hA:=Sj d L hl
 rw[←M7]at hA
 unfold eU
 by_cases h0:0≤d
 ·by_cases h1:d≤1048576
  ·rw[decide_eq_true ⟨h0,h1⟩,Bool.true_and]
   refine PC.aj (T:=tb0) ay aH rfl mixed Tryz.func39 rfl rfl (Nat.le_of_ble_eq_true rfl) ?_;intro Γ C WK LP fin h0 hW hC hB hR hLP hfin
   (try (conv=>whnf));(repeat ((first|refine qT ?_|refine qF ?_|refine qO ?_|(with_reducible intro z hz);(first|(replace hz:=hz (by omega);subst hz)|subst hz));(try (conv=>whnf))))
   refine bV.mk ([.imm (.bool (aK L d))]) ([.box 1 [.imm (.int .i64 d)]]) (hB _ _ _ _ _ (hA)) ?_
   (try (conv=>whnf));(repeat ((first|refine qT ?_|refine qF ?_|refine qO ?_|(with_reducible intro z hz);(first|(replace hz:=hz (by omega);subst hz)|subst hz));(try (conv=>whnf))))
   exact hfin _ (aA.refl _)
  ·rw[decide_eq_false (fun h=>h1 h.2),Bool.false_and]
   refine PC.aj (T:=tb0) ay aH rfl mixed Tryz.func39 rfl rfl (Nat.le_of_ble_eq_true rfl) ?_;intro Γ C WK LP fin h0 hW hC hB hR hLP hfin
   (try (conv=>whnf));(repeat ((first|refine qT ?_|refine qF ?_|refine qO ?_|(with_reducible intro z hz);(first|(replace hz:=hz (by omega);subst hz)|subst hz));(try (conv=>whnf))))
   exact hfin _ (aA.refl _)
 ·rw[decide_eq_false (fun h=>h0 h.1),Bool.false_and]
  refine PC.aj (T:=tb0) ay aH rfl mixed Tryz.func39 rfl rfl (Nat.le_of_ble_eq_true rfl) ?_;intro Γ C WK LP fin h0 hW hC hB hR hLP hfin
  (try (conv=>whnf));(repeat ((first|refine qT ?_|refine qF ?_|refine qO ?_|(with_reducible intro z hz);(first|(replace hz:=hz (by omega);subst hz)|subst hz));(try (conv=>whnf))))
  exact hfin _ (aA.refl _)
theorem zT (a:St) (e:En) (l:List En):(bC a e l).length≤1+l.length:=by
 obtain⟨P,h,hc⟩:=Ll a e l
 rw[h]
 exact hc.2
end Go.Proofs.YtfjibfdelbodjaaGreat.Pe
