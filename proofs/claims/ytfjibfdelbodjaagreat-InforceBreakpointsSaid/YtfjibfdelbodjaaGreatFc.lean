/-
  The library's Compact at integers and at strings. In force: the other walks over the amendments. In force: Breakpoints, On; the law's example.
-/
import Derived.Test.YtfjibfdelbodjaaGreatFb
import Derived.Shelf.Sort.Plain
import Derived.Shelf.Slices.In.SortNone
import Derived.Test.YtfjibfdelbodjaaGreatWEa
namespace Go.Proofs.YtfjibfdelbodjaaGreat.Po
open Go Go.Pv Go.RowKit
set_option linter.unusedSimpArgs false
open Lab Lcs Go.Proofs.YtfjibfdelbodjaaGreat Go.Proofs.YtfjibfdelbodjaaGreat.Pu
set_option maxRecDepth 10000
set_option maxHeartbeats 32000000
namespace F
section
variable {α:Type} [DecidableEq α]
def ded:List α→List α
 |[]=>[]
 |[x]=>[x]
 |x::y::l=>if x=y then ded (y::l) else x::ded (y::l)
theorem Bw (z:α):∀l:List α,z∈ded l↔z∈l
 |[]=>by simp[ded]
 |[x]=>by simp[ded]
 |x::y::l=>by
  have ih:=Bw z (y::l)
  unfold ded
  split
  ·rename_i h
   rw[ih,h];simp
  ·rw[List.mem_cons,ih,List.mem_cons (a:=z) (b:=x)]
theorem A8:∀l:List α,(ded l).length≤l.length
 |[]=>by simp[ded]
 |[x]=>by simp[ded]
 |x::y::l=>by
  have ih:=A8 (y::l)
  unfold ded
  split
  ·simp only[List.length_cons]at ih ⊢;omega
  ·simp only[List.length_cons]at ih ⊢;omega
theorem Eb (x y:α):∀l:List α,ded (l++[x,y])=if x=y then ded (l++[x]) else ded (l++[x])++[y]
 |[]=>by
  by_cases h:x=y
  ·subst h;simp[ded]
  ·simp[ded,h]
 |[a]=>by
  by_cases h:x=y
  ·subst h;by_cases h2:a=x<;>simp[ded,h2]
  ·by_cases h2:a=x
   ·subst h2;simp[ded,h]
   ·simp[ded,h,h2]
 |a::b::l=>by
  have ih:=Eb x y (b::l)
  simp only[List.cons_append]at ih ⊢
  unfold ded
  rw[ih]
  by_cases h:x=y<;>by_cases h2:a=b<;>simp[h,h2]
theorem kZ {l:List α} {k:Nat} {x y:α} (hx:l[k]?=some x) (hy:l[k+1]?=some y):ded (l.take (k+2))=if x=y then ded (l.take (k+1)) else ded (l.take (k+1))++[y]:=by
 have h:=Eb x y (l.take k)
 rw[←List.singleton_append (l:=[y]),←List.append_assoc,←take_at hx,←take_at hy]at h
 exact h
theorem Qn (l:List α):ded (l.take 1)=l.take 1:=by
 cases l<;>simp[ded]
def cpk (L:List α) (j:Nat):List α:=ded (L.take j)++L.drop (ded (L.take j)).length
theorem G5 (L:List α) (j:Nat) (hj:j≤L.length):(ded (L.take j)).length≤j:=by
 have:=A8 (L.take j)
 rw[List.length_take]at this
 omega
theorem QW (L:List α) (j:Nat) (hj:j≤L.length):(cpk L j).length=L.length:=by
 have:=G5 L j hj
 unfold cpk
 rw[List.length_append,List.length_drop]
 omega
theorem Gj {L:List α} {j i:Nat} {x:α} (hi:(ded (L.take j)).length≤i) (hx:L[i]?=some x):(cpk L j)[i]?=some x:=by
 unfold cpk
 rw[List.getElem?_append_right hi,List.getElem?_drop,show (ded (L.take j)).length+(i - (ded (L.take j)).length)=i by omega]
 exact hx
theorem Si {L:List α} {k:Nat} {x:α} (hx:L[k]?=some x) (hy:L[k+1]?=some x):cpk L (k+2)=cpk L (k+1):=by
 unfold cpk
 rw[kZ hx hy,if_pos rfl]
theorem RJ {L:List α} {k:Nat} {x y:α} (hx:L[k]?=some x) (hy:L[k+1]?=some y) (h:x≠y):cpk L (k+2)=(cpk L (k+1)).set (ded (L.take (k+1))).length y∧(ded (L.take (k+2))).length=(ded (L.take (k+1))).length+1:=by
 have hk:=(List.getElem?_eq_some_iff.1 hy).1
 have hle:=G5 L (k+1) (by omega)
 unfold cpk
 rw[kZ hx hy,if_neg h,List.length_append,List.length_singleton]
 refine⟨?_,rfl⟩
 rw[List.set_append_right _ _ (Nat.le_refl _),Nat.sub_self,List.drop_eq_getElem_cons (i:=(ded (L.take (k+1))).length) (by omega),List.set_cons_zero,List.append_assoc]
 rfl
omit [DecidableEq α] in
theorem iZ {L:List α} {k:Nat} (h:k < L.length):∃x,L[k]?=some x:=⟨_,List.getElem?_eq_getElem h⟩
theorem N9 {L:List α} {j:Nat} (h:(ded (L.take j)).length < j) (h1:1≤j):∀d,j+d≤L.length→(ded (L.take (j+d))).length < j+d
 |0,_=>h
 |d+1,hd=>by
  have ih:=N9 h h1 d (by omega)
  obtain⟨i,hi⟩:∃i,j+d=i+1:=⟨j+d - 1,by omega⟩
  obtain⟨x,hx⟩:=iZ (L:=L) (k:=i) (by omega)
  obtain⟨y,hy⟩:=iZ (L:=L) (k:=i+1) (by omega)
  rw[hi]at ih
  rw[←Nat.add_assoc,hi,kZ hx hy]
  split
  ·omega
  ·rw[List.length_append,List.length_singleton];omega
theorem Rs {L:List α} (h:ded L=L) {k:Nat} {x y:α} (hx:L[k]?=some x) (hy:L[k+1]?=some y):x≠y:=fun e=>by
 have hk:=(List.getElem?_eq_some_iff.1 hy).1
 have h1:=kZ hx hy
 rw[if_pos e]at h1
 have h2:=G5 L (k+1) (by omega)
 have h3:=N9 (L:=L) (j:=k+2) (by rw[h1];omega) (by omega) (L.length - (k+2)) (by omega)
 rw[show k+2+(L.length - (k+2))=L.length by omega,List.take_length,h]at h3
 omega
omit [DecidableEq α] in
theorem Mi {l:List PV} {d:Nat} (z:PV) (h:d≤l.length):List.take d (l.take d++List.replicate (l.length - d) z++l.drop (d+(l.length - d)))=l.take d:=by
 rw[List.append_assoc,List.take_append_of_le_length (by rw[List.length_take];omega),List.take_take,Nat.min_self]
omit [DecidableEq α] in
theorem PE {l:List PV} {d:Nat} (z:PV) (h:d≤l.length):(l.take d++List.replicate (l.length - d) z++l.drop (d+(l.length - d))).length=l.length:=by
 simp only[List.length_append,List.length_take,List.length_replicate,List.length_drop];omega
end
abbrev fP (L:List Int):List PV:=(L.map kI).map .imm
theorem OA (L:List Int):(fP L).length=L.length:=by simp
theorem nX {L:List Int} {k:Nat} {x:Int} (h:L[k]?=some x):(fP L)[k]?=some (.imm (kI x)):=by
 simp[fP,h]
theorem wT {L:List Int} {k z:Nat} {x:Int} (h:L[k]?=some x) (e:z=k):(fP L)[z]?=some (.imm (kI x)):=by subst e;exact nX h
theorem Cv (L:List Int) (hL:L.length≤1000000):PCB Tryz.prog aM 45 [.row 0 1] [.row 3 1 1 (fP L)] [.row 0 1] [.row 3 1 1 (fP (ded L))]∨
  PCB Tryz.prog aM 45 [.row 0 1] [.row 3 1 1 (fP L)] [.row 0 2] [.row 3 1 2 (fP (ded L))]:=by
 have hrl:=OA L
 by_cases hlt:L.length < 2
 ·left
  have e:ded L=L:=by
   rcases L with _|⟨a,_|⟨b,l⟩⟩
   ·rfl
   ·rfl
   ·simp only[List.length_cons]at hlt;omega
  rw[e]
  refine PCB.aj (T:=dZ) aS bB rfl mixed Tryz.func45 rfl rfl rfl (Nat.le_of_ble_eq_true rfl) rfl ?_;intro Γ C WK LP fin h0 hk0 hW hC hB hR hLP hfin
  (try (conv=>whnf));(repeat ((first|refine qT ?_|refine qF ?_|refine qO ?_|(with_reducible intro z hz);(first|(replace hz:=hz (by omega);subst hz)|subst hz));(try (conv=>whnf))))
  exact hfin _ (qSL 1 rfl rfl)
 by_cases hd:ded L=L
 ·left
  rw[hd]
  refine PCB.aj (T:=dZ) aS bB rfl mixed Tryz.func45 rfl rfl rfl (Nat.le_of_ble_eq_true rfl) rfl ?_;intro Γ C WK LP fin h0 hk0 hW hC hB hR hLP hfin
  (try (conv=>whnf));(repeat ((first|refine qT ?_|refine qF ?_|refine qO ?_|(with_reducible intro z hz);(first|(replace hz:=hz (by omega);subst hz)|subst hz));(try (conv=>whnf))))
  refine hLP _ _ _ Nat (fun k=>⟨[(0,.row 0 1),(3,.imm (.int .i64 (k:Nat)))],[.row 3 1 1 (fP L)]⟩) (fun k=>1≤k∧k≤L.length) (fun k=>L.length - k) 1 ⟨by omega,by omega⟩ (qSL 1 rfl rfl) ?_
  rintro k ⟨hk1,hk⟩
  have hho:=Nat.lt_or_ge k L.length
  cases hho with
  |inl hkl=>
   obtain⟨i,rfl⟩:∃i,k=i+1:=⟨k - 1,by omega⟩
   obtain⟨x,hx⟩:=iZ (L:=L) (k:=i) (by omega)
   obtain⟨y,hy⟩:=iZ (L:=L) (k:=i+1) (by omega)
   have hi:¬y=x:=fun e=>Rs hd hx hy e.symm
   (try (conv=>whnf));(repeat ((first|refine qT ?_|refine qF ?_|refine qO ?_|(with_reducible intro z hz);(first|(replace hz:=hz (by omega);subst hz)|subst hz));(try (conv=>whnf))))
   refine Pos.mk (i+1) rfl (by omega) ?_
   (try (conv=>whnf));(repeat ((first|refine qT ?_|refine qF ?_|refine qO ?_|(with_reducible intro z hz);(first|(replace hz:=hz (by omega);subst hz)|subst hz));(try (conv=>whnf))))
   refine At.mk (.imm (kI y)) (nX hy) ?_
   (try (conv=>whnf));(repeat ((first|refine qT ?_|refine qF ?_|refine qO ?_|(with_reducible intro z hz);(first|(replace hz:=hz (by omega);subst hz)|subst hz));(try (conv=>whnf))))
   refine Pos.mk i (by omega) (by omega) ?_
   (try (conv=>whnf));(repeat ((first|refine qT ?_|refine qF ?_|refine qO ?_|(with_reducible intro z hz);(first|(replace hz:=hz (by omega);subst hz)|subst hz));(try (conv=>whnf))))
   refine At.mk (.imm (kI x)) (nX hx) ?_
   (try (conv=>whnf));(repeat ((first|refine qT ?_|refine qF ?_|refine qO ?_|(with_reducible intro z hz);(first|(replace hz:=hz (by omega);subst hz)|subst hz));(try (conv=>whnf))))
   exact⟨i+1+1,⟨by omega,by omega⟩,by dsimp only;omega,(qSL 1 rfl rfl)⟩
  |inr hge=>
   obtain rfl:k=L.length:=by omega
   (try (conv=>whnf));(repeat ((first|refine qT ?_|refine qF ?_|refine qO ?_|(with_reducible intro z hz);(first|(replace hz:=hz (by omega);subst hz)|subst hz));(try (conv=>whnf))))
   exact hfin _ (qSL 1 rfl rfl)
 ·right
  refine PCB.aj (T:=dZ) aS bB rfl mixed Tryz.func45 rfl rfl rfl (Nat.le_of_ble_eq_true rfl) rfl ?_;intro Γ C WK LP fin h0 hk0 hW hC hB hR hLP hfin
  (try (conv=>whnf));(repeat ((first|refine qT ?_|refine qF ?_|refine qO ?_|(with_reducible intro z hz);(first|(replace hz:=hz (by omega);subst hz)|subst hz));(try (conv=>whnf))))
  refine hLP _ _ _ Nat (fun k=>⟨[(0,.row 0 1),(3,.imm (.int .i64 (k:Nat)))],[.row 3 1 1 (fP L)]⟩) (fun k=>1≤k∧k≤L.length∧ded (L.take k)=L.take k) (fun k=>L.length - k) 1 ⟨by omega,by omega,Qn L⟩ (qSL 1 rfl rfl) ?_
  rintro k ⟨hk1,hk,hdk⟩
  have hho:=Nat.lt_or_ge k L.length
  cases hho with
  |inr hge=>
   exfalso
   rw[List.take_of_length_le hge]at hdk
   exact hd hdk
  |inl hkl=>
   obtain⟨i,rfl⟩:∃i,k=i+1:=⟨k - 1,by omega⟩
   obtain⟨x,hx⟩:=iZ (L:=L) (k:=i) (by omega)
   obtain⟨y,hy⟩:=iZ (L:=L) (k:=i+1) (by omega)
   have hdt:=kZ hx hy
   by_cases hxy:x=y
   ·have hi:y=x:=hxy.symm
    rw[if_pos hxy,hdk]at hdt
    have e0:cpk L (i+1+1)=L:=by unfold cpk;rw[hdt,List.length_take,Nat.min_eq_left (by omega),List.take_append_drop]
    have e1:(ded (L.take (i+1+1))).length=i+1:=by rw[hdt,List.length_take,Nat.min_eq_left (by omega)]
    (try (conv=>whnf));(repeat ((first|refine qT ?_|refine qF ?_|refine qO ?_|(with_reducible intro z hz);(first|(replace hz:=hz (by omega);subst hz)|subst hz));(try (conv=>whnf))))
    refine Pos.mk (i+1) rfl (by omega) ?_
    (try (conv=>whnf));(repeat ((first|refine qT ?_|refine qF ?_|refine qO ?_|(with_reducible intro z hz);(first|(replace hz:=hz (by omega);subst hz)|subst hz));(try (conv=>whnf))))
    refine At.mk (.imm (kI y)) (nX hy) ?_
    (try (conv=>whnf));(repeat ((first|refine qT ?_|refine qF ?_|refine qO ?_|(with_reducible intro z hz);(first|(replace hz:=hz (by omega);subst hz)|subst hz));(try (conv=>whnf))))
    refine Pos.mk i (by omega) (by omega) ?_
    (try (conv=>whnf));(repeat ((first|refine qT ?_|refine qF ?_|refine qO ?_|(with_reducible intro z hz);(first|(replace hz:=hz (by omega);subst hz)|subst hz));(try (conv=>whnf))))
    refine At.mk (.imm (kI x)) (nX hx) ?_
    (try (conv=>whnf));(repeat ((first|refine qT ?_|refine qF ?_|refine qO ?_|(with_reducible intro z hz);(first|(replace hz:=hz (by omega);subst hz)|subst hz));(try (conv=>whnf))))
    refine hLP _ _ _ Nat (fun m=>⟨[(0,.row 0 1),(3,.imm (.int .i64 ((ded (L.take (i+1+m))).length:Nat))),(4,.sub 0 1 1 (i+1) ((fP L).length - (i+1))),(5,.imm (.int .i64 (m:Nat)))],[.row 3 1 1 (fP (cpk L (i+1+m)))]⟩) (fun m=>1≤m∧i+1+m≤L.length∧(ded (L.take (i+1+m))).length < i+1+m) (fun m=>L.length - m) 1 ⟨by omega,by omega,by omega⟩ ?_ ?_
    ·dsimp only[]
     rw[e0,e1]
     exact (qSL 1 rfl rfl)
    rintro m ⟨hm1,hm,hml⟩
    have hcl:(fP (cpk L (i+1+m))).length=L.length:=by rw[OA,QW L _ hm]
    have hho:=Nat.lt_or_ge (i+1+m) L.length
    cases hho with
    |inl hml2=>
     obtain⟨j,hj⟩:∃j,i+1+m=j+1:=⟨i+m,by omega⟩
     obtain⟨u,hu⟩:=iZ (L:=L) (k:=j) (by omega)
     obtain⟨v,hv⟩:=iZ (L:=L) (k:=j+1) (by omega)
     have hau:=Gj (j:=i+1+m) (by omega) hu
     have hav:=Gj (j:=i+1+m) (by omega) hv
     by_cases huv:u=v
     ·have hi2:v=u:=huv.symm
      have hce:=Si hu (huv ▸ hv)
      have hde:=kZ hu hv
      rw[if_pos huv]at hde
      rw[show j+2=i+1+(m+1) by omega,←hj]at hce hde
      (try (conv=>whnf));(repeat ((first|refine qT ?_|refine qF ?_|refine qO ?_|(with_reducible intro z hz);(first|(replace hz:=hz (by omega);subst hz)|subst hz));(try (conv=>whnf))))
      refine At.mk (.imm (kI v)) (wT hav (by omega)) ?_
      (try (conv=>whnf));(repeat ((first|refine qT ?_|refine qF ?_|refine qO ?_|(with_reducible intro z hz);(first|(replace hz:=hz (by omega);subst hz)|subst hz));(try (conv=>whnf))))
      refine At.mk (.imm (kI u)) (wT hau (by omega)) ?_
      (try (conv=>whnf));(repeat ((first|refine qT ?_|refine qF ?_|refine qO ?_|(with_reducible intro z hz);(first|(replace hz:=hz (by omega);subst hz)|subst hz));(try (conv=>whnf))))
      refine⟨m+1,⟨by omega,by omega,by rw[hde];omega⟩,by dsimp only;omega,?_⟩
      dsimp only[]
      rw[hce,hde]
      exact (qSL 1 rfl rfl)
     ·have hi2:¬v=u:=fun e=>huv e.symm
      obtain⟨hce,hde⟩:=RJ hu hv huv
      rw[show j+2=i+1+(m+1) by omega,←hj]at hce hde
      (try (conv=>whnf));(repeat ((first|refine qT ?_|refine qF ?_|refine qO ?_|(with_reducible intro z hz);(first|(replace hz:=hz (by omega);subst hz)|subst hz));(try (conv=>whnf))))
      refine At.mk (.imm (kI v)) (wT hav (by omega)) ?_
      (try (conv=>whnf));(repeat ((first|refine qT ?_|refine qF ?_|refine qO ?_|(with_reducible intro z hz);(first|(replace hz:=hz (by omega);subst hz)|subst hz));(try (conv=>whnf))))
      refine At.mk (.imm (kI u)) (wT hau (by omega)) ?_
      (try (conv=>whnf));(repeat ((first|refine qT ?_|refine qF ?_|refine qO ?_|(with_reducible intro z hz);(first|(replace hz:=hz (by omega);subst hz)|subst hz));(try (conv=>whnf))))
      refine At.mk (.imm (kI v)) (wT hav (by omega)) ?_
      (try (conv=>whnf));(repeat ((first|refine qT ?_|refine qF ?_|refine qO ?_|(with_reducible intro z hz);(first|(replace hz:=hz (by omega);subst hz)|subst hz));(try (conv=>whnf))))
      refine Pos.mk (ded (L.take (i+1+m))).length rfl (by omega) ?_
      (try (conv=>whnf));(repeat ((first|refine qT ?_|refine qF ?_|refine qO ?_|(with_reducible intro z hz);(first|(replace hz:=hz (by omega);subst hz)|subst hz));(try (conv=>whnf))))
      obtain⟨q,hq⟩:=iZ (L:=L) (k:=(ded (L.take (i+1+m))).length) (by omega)
      refine At.mk (.imm (kI q)) (nX (Gj (Nat.le_refl _) hq)) ?_
      (try (conv=>whnf));(repeat ((first|refine qT ?_|refine qF ?_|refine qO ?_|(with_reducible intro z hz);(first|(replace hz:=hz (by omega);subst hz)|subst hz));(try (conv=>whnf))))
      refine⟨m+1,⟨by omega,by omega,by omega⟩,by dsimp only;omega,?_⟩
      dsimp only[]
      rw[show (((ded (L.take (i+1+(m+1)))).length:Nat):Int)=((ded (L.take (i+1+m))).length:Nat)+1 by omega]
      exact ((aC.row 0 (fP (cpk L (i+1+(m+1)))) rfl (by rw[hce];simp[fP,List.map_set];rfl))).trans (qSL 1 rfl rfl)
    |inr hge=>
     have hmn:i+1+m=L.length:=by omega
     have hfl:ded (L.take (i+1+m))=ded L:=by rw[hmn,List.take_length]
     have hdl:(ded L).length≤(fP (cpk L (i+1+m))).length:=by rw[←hfl];omega
     have hcr:(fP (cpk L (i+1+m))).take (ded L).length=fP (ded L):=by
      unfold cpk
      rw[hfl]
      simp only[fP]
      rw[←List.map_take,←List.map_take,List.take_left]
     rw[hfl]
     (try (conv=>whnf));(repeat ((first|refine qT ?_|refine qF ?_|refine qO ?_|(with_reducible intro z hz);(first|(replace hz:=hz (by omega);subst hz)|subst hz));(try (conv=>whnf))))
     refine Owe.mk ⟨Int.natCast_nonneg _,Int.ofNat_le.2 (Nat.le_trans hdl (Nat.le_of_eq (PE _ hdl).symm))⟩ ?_
     intro es' he
     obtain rfl:es'=fP (ded L):=he.trans ((Mi _ hdl).trans hcr)
     clear he
     (try (conv=>whnf));(repeat ((first|refine qT ?_|refine qF ?_|refine qO ?_|(with_reducible intro z hz);(first|(replace hz:=hz (by omega);subst hz)|subst hz));(try (conv=>whnf))))
     exact hfin _ (qSL 1 rfl rfl)
   ·have hi:¬y=x:=fun e=>hxy e.symm
    (try (conv=>whnf));(repeat ((first|refine qT ?_|refine qF ?_|refine qO ?_|(with_reducible intro z hz);(first|(replace hz:=hz (by omega);subst hz)|subst hz));(try (conv=>whnf))))
    refine Pos.mk (i+1) rfl (by omega) ?_
    (try (conv=>whnf));(repeat ((first|refine qT ?_|refine qF ?_|refine qO ?_|(with_reducible intro z hz);(first|(replace hz:=hz (by omega);subst hz)|subst hz));(try (conv=>whnf))))
    refine At.mk (.imm (kI y)) (nX hy) ?_
    (try (conv=>whnf));(repeat ((first|refine qT ?_|refine qF ?_|refine qO ?_|(with_reducible intro z hz);(first|(replace hz:=hz (by omega);subst hz)|subst hz));(try (conv=>whnf))))
    refine Pos.mk i (by omega) (by omega) ?_
    (try (conv=>whnf));(repeat ((first|refine qT ?_|refine qF ?_|refine qO ?_|(with_reducible intro z hz);(first|(replace hz:=hz (by omega);subst hz)|subst hz));(try (conv=>whnf))))
    refine At.mk (.imm (kI x)) (nX hx) ?_
    (try (conv=>whnf));(repeat ((first|refine qT ?_|refine qF ?_|refine qO ?_|(with_reducible intro z hz);(first|(replace hz:=hz (by omega);subst hz)|subst hz));(try (conv=>whnf))))
    exact⟨i+1+1,⟨by omega,by omega,by rw[if_neg hxy,hdk,←take_at hy]at hdt;exact hdt⟩,by dsimp only;omega,(qSL 1 rfl rfl)⟩
abbrev TS (L:List Str):List PV:=(L.map IV.str).map .imm
theorem UL (L:List Str):(TS L).length=L.length:=by simp
theorem TV {L:List Str} {k:Nat} {x:Str} (h:L[k]?=some x):(TS L)[k]?=some (.imm (IV.str x)):=by
 simp[TS,h]
theorem Uc {L:List Str} {k z:Nat} {x:Str} (h:L[k]?=some x) (e:z=k):(TS L)[z]?=some (.imm (IV.str x)):=by subst e;exact TV h
theorem Uj (L:List Str) (hL:L.length≤1000000):PCB Tryz.prog aM 50 [.row 0 1] [.row 9 1 1 (TS L)] [.row 0 1] [.row 9 1 1 (TS (ded L))]∨
  PCB Tryz.prog aM 50 [.row 0 1] [.row 9 1 1 (TS L)] [.row 0 2] [.row 9 1 2 (TS (ded L))]:=by
 have hrl:=UL L
 by_cases hlt:L.length < 2
 ·left
  have e:ded L=L:=by
   rcases L with _|⟨a,_|⟨b,l⟩⟩
   ·rfl
   ·rfl
   ·simp only[List.length_cons]at hlt;omega
  rw[e]
  refine PCB.aj (T:=dZ) aS bB rfl mixed Tryz.func50 rfl rfl rfl (Nat.le_of_ble_eq_true rfl) rfl ?_;intro Γ C WK LP fin h0 hk0 hW hC hB hR hLP hfin
  (try (conv=>whnf));(repeat ((first|refine qT ?_|refine qF ?_|refine qO ?_|(with_reducible intro z hz);(first|(replace hz:=hz (by omega);subst hz)|subst hz));(try (conv=>whnf))))
  exact hfin _ (qSL 1 rfl rfl)
 by_cases hd:ded L=L
 ·left
  rw[hd]
  refine PCB.aj (T:=dZ) aS bB rfl mixed Tryz.func50 rfl rfl rfl (Nat.le_of_ble_eq_true rfl) rfl ?_;intro Γ C WK LP fin h0 hk0 hW hC hB hR hLP hfin
  (try (conv=>whnf));(repeat ((first|refine qT ?_|refine qF ?_|refine qO ?_|(with_reducible intro z hz);(first|(replace hz:=hz (by omega);subst hz)|subst hz));(try (conv=>whnf))))
  refine hLP _ _ _ Nat (fun k=>⟨[(0,.row 0 1),(3,.imm (.int .i64 (k:Nat)))],[.row 9 1 1 (TS L)]⟩) (fun k=>1≤k∧k≤L.length) (fun k=>L.length - k) 1 ⟨by omega,by omega⟩ (qSL 1 rfl rfl) ?_
  rintro k ⟨hk1,hk⟩
  have hho:=Nat.lt_or_ge k L.length
  cases hho with
  |inl hkl=>
   obtain⟨i,rfl⟩:∃i,k=i+1:=⟨k - 1,by omega⟩
   obtain⟨x,hx⟩:=iZ (L:=L) (k:=i) (by omega)
   obtain⟨y,hy⟩:=iZ (L:=L) (k:=i+1) (by omega)
   have hi:¬y=x:=fun e=>Rs hd hx hy e.symm
   (try (conv=>whnf));(repeat ((first|refine qT ?_|refine qF ?_|refine qO ?_|(with_reducible intro z hz);(first|(replace hz:=hz (by omega);subst hz)|subst hz));(try (conv=>whnf))))
   refine Pos.mk (i+1) rfl (by omega) ?_
   (try (conv=>whnf));(repeat ((first|refine qT ?_|refine qF ?_|refine qO ?_|(with_reducible intro z hz);(first|(replace hz:=hz (by omega);subst hz)|subst hz));(try (conv=>whnf))))
   refine At.mk (.imm (IV.str y)) (TV hy) ?_
   (try (conv=>whnf));(repeat ((first|refine qT ?_|refine qF ?_|refine qO ?_|(with_reducible intro z hz);(first|(replace hz:=hz (by omega);subst hz)|subst hz));(try (conv=>whnf))))
   refine Pos.mk i (by omega) (by omega) ?_
   (try (conv=>whnf));(repeat ((first|refine qT ?_|refine qF ?_|refine qO ?_|(with_reducible intro z hz);(first|(replace hz:=hz (by omega);subst hz)|subst hz));(try (conv=>whnf))))
   refine At.mk (.imm (IV.str x)) (TV hx) ?_
   (try (conv=>whnf));(repeat ((first|refine qT ?_|refine qF ?_|refine qO ?_|(with_reducible intro z hz);(first|(replace hz:=hz (by omega);subst hz)|subst hz));(try (conv=>whnf))))
   exact⟨i+1+1,⟨by omega,by omega⟩,by dsimp only;omega,(qSL 1 rfl rfl)⟩
  |inr hge=>
   obtain rfl:k=L.length:=by omega
   (try (conv=>whnf));(repeat ((first|refine qT ?_|refine qF ?_|refine qO ?_|(with_reducible intro z hz);(first|(replace hz:=hz (by omega);subst hz)|subst hz));(try (conv=>whnf))))
   exact hfin _ (qSL 1 rfl rfl)
 ·right
  refine PCB.aj (T:=dZ) aS bB rfl mixed Tryz.func50 rfl rfl rfl (Nat.le_of_ble_eq_true rfl) rfl ?_;intro Γ C WK LP fin h0 hk0 hW hC hB hR hLP hfin
  (try (conv=>whnf));(repeat ((first|refine qT ?_|refine qF ?_|refine qO ?_|(with_reducible intro z hz);(first|(replace hz:=hz (by omega);subst hz)|subst hz));(try (conv=>whnf))))
  refine hLP _ _ _ Nat (fun k=>⟨[(0,.row 0 1),(3,.imm (.int .i64 (k:Nat)))],[.row 9 1 1 (TS L)]⟩) (fun k=>1≤k∧k≤L.length∧ded (L.take k)=L.take k) (fun k=>L.length - k) 1 ⟨by omega,by omega,Qn L⟩ (qSL 1 rfl rfl) ?_
  rintro k ⟨hk1,hk,hdk⟩
  have hho:=Nat.lt_or_ge k L.length
  cases hho with
  |inr hge=>
   exfalso
   rw[List.take_of_length_le hge]at hdk
   exact hd hdk
  |inl hkl=>
   obtain⟨i,rfl⟩:∃i,k=i+1:=⟨k - 1,by omega⟩
   obtain⟨x,hx⟩:=iZ (L:=L) (k:=i) (by omega)
   obtain⟨y,hy⟩:=iZ (L:=L) (k:=i+1) (by omega)
   have hdt:=kZ hx hy
   by_cases hxy:x=y
   ·have hi:y=x:=hxy.symm
    rw[if_pos hxy,hdk]at hdt
    have e0:cpk L (i+1+1)=L:=by unfold cpk;rw[hdt,List.length_take,Nat.min_eq_left (by omega),List.take_append_drop]
    have e1:(ded (L.take (i+1+1))).length=i+1:=by rw[hdt,List.length_take,Nat.min_eq_left (by omega)]
    (try (conv=>whnf));(repeat ((first|refine qT ?_|refine qF ?_|refine qO ?_|(with_reducible intro z hz);(first|(replace hz:=hz (by omega);subst hz)|subst hz));(try (conv=>whnf))))
    refine Pos.mk (i+1) rfl (by omega) ?_
    (try (conv=>whnf));(repeat ((first|refine qT ?_|refine qF ?_|refine qO ?_|(with_reducible intro z hz);(first|(replace hz:=hz (by omega);subst hz)|subst hz));(try (conv=>whnf))))
    refine At.mk (.imm (IV.str y)) (TV hy) ?_
    (try (conv=>whnf));(repeat ((first|refine qT ?_|refine qF ?_|refine qO ?_|(with_reducible intro z hz);(first|(replace hz:=hz (by omega);subst hz)|subst hz));(try (conv=>whnf))))
    refine Pos.mk i (by omega) (by omega) ?_
    (try (conv=>whnf));(repeat ((first|refine qT ?_|refine qF ?_|refine qO ?_|(with_reducible intro z hz);(first|(replace hz:=hz (by omega);subst hz)|subst hz));(try (conv=>whnf))))
    refine At.mk (.imm (IV.str x)) (TV hx) ?_
    (try (conv=>whnf));(repeat ((first|refine qT ?_|refine qF ?_|refine qO ?_|(with_reducible intro z hz);(first|(replace hz:=hz (by omega);subst hz)|subst hz));(try (conv=>whnf))))
    refine hLP _ _ _ Nat (fun m=>⟨[(0,.row 0 1),(3,.imm (.int .i64 ((ded (L.take (i+1+m))).length:Nat))),(4,.sub 0 1 1 (i+1) ((TS L).length - (i+1))),(5,.imm (.int .i64 (m:Nat)))],[.row 9 1 1 (TS (cpk L (i+1+m)))]⟩) (fun m=>1≤m∧i+1+m≤L.length∧(ded (L.take (i+1+m))).length < i+1+m) (fun m=>L.length - m) 1 ⟨by omega,by omega,by omega⟩ ?_ ?_
    ·dsimp only[]
     rw[e0,e1]
     exact (qSL 1 rfl rfl)
    rintro m ⟨hm1,hm,hml⟩
    have hcl:(TS (cpk L (i+1+m))).length=L.length:=by rw[UL,QW L _ hm]
    have hho:=Nat.lt_or_ge (i+1+m) L.length
    cases hho with
    |inl hml2=>
     obtain⟨j,hj⟩:∃j,i+1+m=j+1:=⟨i+m,by omega⟩
     obtain⟨u,hu⟩:=iZ (L:=L) (k:=j) (by omega)
     obtain⟨v,hv⟩:=iZ (L:=L) (k:=j+1) (by omega)
     have hau:=Gj (j:=i+1+m) (by omega) hu
     have hav:=Gj (j:=i+1+m) (by omega) hv
     by_cases huv:u=v
     ·have hi2:v=u:=huv.symm
      have hce:=Si hu (huv ▸ hv)
      have hde:=kZ hu hv
      rw[if_pos huv]at hde
      rw[show j+2=i+1+(m+1) by omega,←hj]at hce hde
      (try (conv=>whnf));(repeat ((first|refine qT ?_|refine qF ?_|refine qO ?_|(with_reducible intro z hz);(first|(replace hz:=hz (by omega);subst hz)|subst hz));(try (conv=>whnf))))
      refine At.mk (.imm (IV.str v)) (Uc hav (by omega)) ?_
      (try (conv=>whnf));(repeat ((first|refine qT ?_|refine qF ?_|refine qO ?_|(with_reducible intro z hz);(first|(replace hz:=hz (by omega);subst hz)|subst hz));(try (conv=>whnf))))
      refine At.mk (.imm (IV.str u)) (Uc hau (by omega)) ?_
      (try (conv=>whnf));(repeat ((first|refine qT ?_|refine qF ?_|refine qO ?_|(with_reducible intro z hz);(first|(replace hz:=hz (by omega);subst hz)|subst hz));(try (conv=>whnf))))
      refine⟨m+1,⟨by omega,by omega,by rw[hde];omega⟩,by dsimp only;omega,?_⟩
      dsimp only[]
      rw[hce,hde]
      exact (qSL 1 rfl rfl)
     ·have hi2:¬v=u:=fun e=>huv e.symm
      obtain⟨hce,hde⟩:=RJ hu hv huv
      rw[show j+2=i+1+(m+1) by omega,←hj]at hce hde
      (try (conv=>whnf));(repeat ((first|refine qT ?_|refine qF ?_|refine qO ?_|(with_reducible intro z hz);(first|(replace hz:=hz (by omega);subst hz)|subst hz));(try (conv=>whnf))))
      refine At.mk (.imm (IV.str v)) (Uc hav (by omega)) ?_
      (try (conv=>whnf));(repeat ((first|refine qT ?_|refine qF ?_|refine qO ?_|(with_reducible intro z hz);(first|(replace hz:=hz (by omega);subst hz)|subst hz));(try (conv=>whnf))))
      refine At.mk (.imm (IV.str u)) (Uc hau (by omega)) ?_
      (try (conv=>whnf));(repeat ((first|refine qT ?_|refine qF ?_|refine qO ?_|(with_reducible intro z hz);(first|(replace hz:=hz (by omega);subst hz)|subst hz));(try (conv=>whnf))))
      refine At.mk (.imm (IV.str v)) (Uc hav (by omega)) ?_
      (try (conv=>whnf));(repeat ((first|refine qT ?_|refine qF ?_|refine qO ?_|(with_reducible intro z hz);(first|(replace hz:=hz (by omega);subst hz)|subst hz));(try (conv=>whnf))))
      refine Pos.mk (ded (L.take (i+1+m))).length rfl (by omega) ?_
      (try (conv=>whnf));(repeat ((first|refine qT ?_|refine qF ?_|refine qO ?_|(with_reducible intro z hz);(first|(replace hz:=hz (by omega);subst hz)|subst hz));(try (conv=>whnf))))
      obtain⟨q,hq⟩:=iZ (L:=L) (k:=(ded (L.take (i+1+m))).length) (by omega)
      refine At.mk (.imm (IV.str q)) (TV (Gj (Nat.le_refl _) hq)) ?_
      (try (conv=>whnf));(repeat ((first|refine qT ?_|refine qF ?_|refine qO ?_|(with_reducible intro z hz);(first|(replace hz:=hz (by omega);subst hz)|subst hz));(try (conv=>whnf))))
      refine⟨m+1,⟨by omega,by omega,by omega⟩,by dsimp only;omega,?_⟩
      dsimp only[]
      rw[show (((ded (L.take (i+1+(m+1)))).length:Nat):Int)=((ded (L.take (i+1+m))).length:Nat)+1 by omega]
      exact ((aC.row 0 (TS (cpk L (i+1+(m+1)))) rfl (by rw[hce];simp[TS,List.map_set];rfl))).trans (qSL 1 rfl rfl)
    |inr hge=>
     have hmn:i+1+m=L.length:=by omega
     have hfl:ded (L.take (i+1+m))=ded L:=by rw[hmn,List.take_length]
     have hdl:(ded L).length≤(TS (cpk L (i+1+m))).length:=by rw[←hfl];omega
     have hcr:(TS (cpk L (i+1+m))).take (ded L).length=TS (ded L):=by
      unfold cpk
      rw[hfl]
      simp only[TS]
      rw[←List.map_take,←List.map_take,List.take_left]
     rw[hfl]
     (try (conv=>whnf));(repeat ((first|refine qT ?_|refine qF ?_|refine qO ?_|(with_reducible intro z hz);(first|(replace hz:=hz (by omega);subst hz)|subst hz));(try (conv=>whnf))))
     refine Owe.mk ⟨Int.natCast_nonneg _,Int.ofNat_le.2 (Nat.le_trans hdl (Nat.le_of_eq (PE _ hdl).symm))⟩ ?_
     intro es' he
     obtain rfl:es'=TS (ded L):=he.trans ((Mi _ hdl).trans hcr)
     clear he
     (try (conv=>whnf));(repeat ((first|refine qT ?_|refine qF ?_|refine qO ?_|(with_reducible intro z hz);(first|(replace hz:=hz (by omega);subst hz)|subst hz));(try (conv=>whnf))))
     exact hfin _ (qSL 1 rfl rfl)
   ·have hi:¬y=x:=fun e=>hxy e.symm
    (try (conv=>whnf));(repeat ((first|refine qT ?_|refine qF ?_|refine qO ?_|(with_reducible intro z hz);(first|(replace hz:=hz (by omega);subst hz)|subst hz));(try (conv=>whnf))))
    refine Pos.mk (i+1) rfl (by omega) ?_
    (try (conv=>whnf));(repeat ((first|refine qT ?_|refine qF ?_|refine qO ?_|(with_reducible intro z hz);(first|(replace hz:=hz (by omega);subst hz)|subst hz));(try (conv=>whnf))))
    refine At.mk (.imm (IV.str y)) (TV hy) ?_
    (try (conv=>whnf));(repeat ((first|refine qT ?_|refine qF ?_|refine qO ?_|(with_reducible intro z hz);(first|(replace hz:=hz (by omega);subst hz)|subst hz));(try (conv=>whnf))))
    refine Pos.mk i (by omega) (by omega) ?_
    (try (conv=>whnf));(repeat ((first|refine qT ?_|refine qF ?_|refine qO ?_|(with_reducible intro z hz);(first|(replace hz:=hz (by omega);subst hz)|subst hz));(try (conv=>whnf))))
    refine At.mk (.imm (IV.str x)) (TV hx) ?_
    (try (conv=>whnf));(repeat ((first|refine qT ?_|refine qF ?_|refine qO ?_|(with_reducible intro z hz);(first|(replace hz:=hz (by omega);subst hz)|subst hz));(try (conv=>whnf))))
    exact⟨i+1+1,⟨by omega,by omega,by rw[if_neg hxy,hdk,←take_at hy]at hdt;exact hdt⟩,by dsimp only;omega,(qSL 1 rfl rfl)⟩
end F
end Go.Proofs.YtfjibfdelbodjaaGreat.Po
namespace Go.Proofs.YtfjibfdelbodjaaGreat.Po
open Go Go.Pv Go.RowKit
set_option linter.unusedSimpArgs false
open Lab Lcs Go.Proofs.YtfjibfdelbodjaaGreat Go.Proofs.YtfjibfdelbodjaaGreat.Pu
set_option maxRecDepth 10000
set_option maxHeartbeats 32000000
namespace F
theorem Qu (L:List Spans.Sp) (hl:L.length≤2000000):PC Tryz.prog aM 70 [.sl 2 (L.map Pe.spv)] [.sl 2 ((Rm.canon (Spans.aK L)).map Pe.spv)]:=
 Pe.xA (enters_of Tryz.func70 rfl rfl) fun Q w vs hQ hvs=>by
  unfold aV at hvs
  obtain⟨v,r,rfl,h1,h2⟩:=hvs
  unfold aV at h2
  subst h2
  obtain⟨A,n,c,rfl,hz⟩:=Pe.vW hQ h1
  exact wX L n c A w hz (by have:=hz.1;omega)
def Can (L:List Spans.Sp):Prop:=Spans.gJ (-1) L
theorem NS {L:List Spans.Sp} (h:Can L):Rm.canon (Spans.aK L)=L:=(Rm.iD (R:=L) ⟨h,fun _ _ _=>rfl⟩).symm
theorem tJ (A:List Ac) (D:List Ei) (d:Ei):Can (cK A D d):=by
 unfold cK Pe.bC
 split
 ·exact (Pe.kW (e:=enP d) (l:=D.map enP) (Pe.jL (Pe.stD (Pe.uK (stA A d.act) (enP d).it.st) (D.map enP)))).1.1
 ·exact trivial
def yR (s:Spans.Sp):List Int:=if s.2≤1048576 then [s.1,s.2] else [s.1]
def bnd (L:List Spans.Sp):List Int:=L.flatMap yR
theorem MX (s:Spans.Sp):(yR s).length≤2:=by unfold yR;split<;>simp
theorem rH:∀L:List Spans.Sp,(bnd L).length≤2*L.length
 |[]=>Nat.le_refl _
 |s::L=>by
  have h1:=MX s
  have h2:=rH L
  show (yR s++bnd L).length≤_
  rw[List.length_append,List.length_cons]
  omega
theorem DV {L:List Spans.Sp} {k:Nat} {s:Spans.Sp} (h:L[k]?=some s):bnd (L.take (k+1))=bnd (L.take k)++yR s:=by
 unfold bnd
 rw[take_at h,List.flatMap_append]
 simp
abbrev rwZ (g:Nat) (l:List Int):Blk:=.row 3 1 g ((l.map kI).map .imm)
abbrev IG (g:Nat) (l:List Int):CBk:=.row 3 1 g (l.map kI)
theorem KP (L:List Spans.Sp) (hc:Can L) (hl:L.length≤1000):PC Tryz.prog aM 43 [.sl 2 (L.map Pe.spv)] [.sl 1 ((bnd L).map kI)]:=by
 have hN:=Qu L (by omega)
 rw[NS hc]at hN
 have hml:(L.map Pe.spv).length=L.length:=List.length_map _
 refine PC.aj (T:=dZ) aS bB rfl mixed Tryz.func43 rfl rfl (Nat.le_of_ble_eq_true rfl) ?_;intro Γ C WK LP fin h0 hW hC hB hR hLP hfin
 (try (conv=>whnf));(repeat ((first|refine qT ?_|refine qF ?_|refine qO ?_|(with_reducible intro z hz);(first|(replace hz:=hz (by omega);subst hz)|subst hz)|(refine ah.mk _ (hC _ _ _ (PCw.of hN)) (fun js hjs=>?_);subst hjs));(try (conv=>whnf))))
 refine hLP _ _ _ Nat (fun k=>⟨[(3,.row 1 1),(7,.imm (.sl 2 (L.map Pe.spv))),(8,.imm (.int .i64 (L.length:Nat))),(9,.imm (.int .i64 (k:Nat)))],[.dead 0,rwZ 1 (bnd (L.take k))]⟩) (fun k=>k≤L.length) (fun k=>L.length - k) 0 (Nat.zero_le _) ((aC.lZ 3 3 1 (Nat.le_of_ble_eq_true rfl) rfl).trans (qSL 2 rfl rfl (hE:=by (repeat ((conv=>whnf);first|exact trivial|refine And.intro (by first|exact av.any|exact av.eq (by with_reducible rfl) rfl|exact av.eq (congrArg (fun z=>PV.imm (IV.int IntKind.i64 z)) (by first|omega|(simp[hml];done)|(simp[hml];omega))) rfl|exact av.eq (by first|(simp[hml];done)|fail) rfl|exact av.eq rfl rfl|exact av.le rfl (ILe.nil _)) ?_))))) ?_
 intro k hk
 have hho:=Nat.lt_or_ge k L.length
 cases hho with
 |inl hlt=>
  obtain⟨s,hs⟩:∃s,L[k]?=some s:=⟨L[k],List.getElem?_eq_getElem hlt⟩
  have hst:=DV hs
  have hbl:=rH (L.take k)
  rw[List.length_take]at hbl
  generalize bnd (L.take k)=zs at *
  have hzl:((zs.map kI).map PV.imm).length=zs.length:=by simp
  by_cases h1:s.2≤1048576
  ·have hb1:yR s=[s.1,s.2]:=if_pos h1
   rw[hb1]at hst
   (try (conv=>whnf));(repeat ((first|refine qT ?_|refine qF ?_|refine qO ?_|(with_reducible intro z hz);(first|(replace hz:=hz (by omega);subst hz)|subst hz));(try (conv=>whnf))))
   refine Idx.mk k (Pe.spv s) _ rfl (by simp[hs]) rfl ?_
   (try (conv=>whnf));(repeat ((first|refine qT ?_|refine qF ?_|refine qO ?_|(with_reducible intro z hz);(first|(replace hz:=hz (by omega);subst hz)|subst hz));(try (conv=>whnf))))
   exact⟨k+1,by omega,by dsimp only;omega,by
    dsimp only[]
    rw[hst]
    exact (aC.row 1 ((((zs++[s.1,s.2]).map kI).map .imm)) rfl (by simp[kI])).trans ((aC.renew 1 1 rfl (by first|omega|(intro _;rw[hk0 _ _ rfl];exact Nat.le_of_ble_eq_true rfl)) (by repeat (first|exact trivial|refine And.intro (bA _ _ _ _) ?_|refine And.intro rfl ?_))).trans (qSL 2 rfl rfl))⟩
  ·have hb1:yR s=[s.1]:=if_neg h1
   rw[hb1]at hst
   (try (conv=>whnf));(repeat ((first|refine qT ?_|refine qF ?_|refine qO ?_|(with_reducible intro z hz);(first|(replace hz:=hz (by omega);subst hz)|subst hz));(try (conv=>whnf))))
   refine Idx.mk k (Pe.spv s) _ rfl (by simp[hs]) rfl ?_
   (try (conv=>whnf));(repeat ((first|refine qT ?_|refine qF ?_|refine qO ?_|(with_reducible intro z hz);(first|(replace hz:=hz (by omega);subst hz)|subst hz));(try (conv=>whnf))))
   exact⟨k+1,by omega,by dsimp only;omega,by
    dsimp only[]
    rw[hst]
    exact (aC.row 1 ((((zs++[s.1]).map kI).map .imm)) rfl (by simp[kI])).trans ((aC.renew 1 1 rfl (by first|omega|(intro _;rw[hk0 _ _ rfl];exact Nat.le_of_ble_eq_true rfl)) (by repeat (first|exact trivial|refine And.intro (bA _ _ _ _) ?_|refine And.intro rfl ?_))).trans (qSL 2 rfl rfl))⟩
 |inr hge=>
  obtain rfl:k=L.length:=by omega
  rw[List.take_length]
  (try (conv=>whnf));(repeat ((first|refine qT ?_|refine qF ?_|refine qO ?_|(with_reducible intro z hz);(first|(replace hz:=hz (by omega);subst hz)|subst hz));(try (conv=>whnf))))
  refine bN.mk ((bnd L).map kI) rfl ?_
  exact hfin _ (aA.refl _)
noncomputable def bpL (A:List Ac) (D L:List Ei):List Int:=0::(amL L).flatMap fun d=>bnd (cK A D d)
theorem Ni {A:List Ac} {D L:List Ei} {k:Nat} {d:Ei} (h:L[k]?=some d):bpL A D (L.take (k+1))=if chB d.it.kind=true then bpL A D (L.take k)++bnd (cK A D d) else bpL A D (L.take k):=by
 unfold bpL
 rw[xJ h]
 cases chB d.it.kind with
 |true=>rw[if_pos rfl,if_pos rfl,List.flatMap_append];simp
 |false=>rfl
theorem Ca (A:List Ac) (D L:List Ei):(bpL A D L).length≤1+L.length*(2+2*D.length):=by
 unfold bpL
 rw[List.length_cons]
 have:∀M:List Ei,(M.flatMap fun d=>bnd (cK A D d)).length≤M.length*(2+2*D.length):=by
  intro M
  induction M with
  |nil=>simp
  |cons d M ih=>
   rw[List.flatMap_cons,List.length_append,List.length_cons,Nat.add_mul]
   have h1:=rH (cK A D d)
   have h2:=o7 A D d
   omega
 have h3:=this (amL L)
 have h4:(amL L).length≤L.length:=List.length_filter_le _ _
 have h5:=Nat.mul_le_mul_right (2+2*D.length) h4
 omega
theorem QD (A:List Ac) (D:List Ei) (d:Ei) (zs:List Int) (hl:(cK A D d).length≤400) (hz:zs.length≤1000000):PCB Tryz.prog aM 42 [.imm (eiv d),.imm (.sl 2 ((cK A D d).map Pe.spv)),.ptr 0 1 0] [.box 1 [.row 1 1],rwZ 1 zs] [] [.box 1 [.row 1 2],rwZ 2 (zs++bnd (cK A D d))]:=by
 have hBo:=KP (cK A D d) (tJ A D d) (by omega)
 have hbl:=rH (cK A D d)
 generalize cK A D d=R at *
 have hzl:((zs.map kI).map PV.imm).length=zs.length:=by simp
 have hbm:((bnd R).map kI).length=(bnd R).length:=by simp
 rw[show eiv d=IV.agg _ from rfl]
 refine PCB.aj (T:=dZ) aS bB rfl mixed Tryz.func42 rfl rfl rfl (Nat.le_of_ble_eq_true rfl) rfl ?_;intro Γ C WK LP fin h0 hk0 hW hC hB hR hLP hfin
 have h02:Γ.n0=2:=h0
 (try (conv=>whnf));(repeat ((first|refine qT ?_|refine qF ?_|refine qO ?_|(with_reducible intro z hz);(first|(replace hz:=hz (by omega);subst hz)|subst hz)|(refine ah.mk _ (hC _ _ _ (PCw.of hBo)) (fun js hjs=>?_);subst hjs));(try (conv=>whnf))))
 refine hfin _ ?_
 exact (aC.row 1 ((((zs++bnd R).map kI).map .imm)) rfl (by simp)).trans (qSL 2 rfl rfl)
theorem El {l:List Gz} {m:Nat} (hm:m≤300) (h30:bO l m):PCB Tryz.prog aM 34 [.imm (.sl 4 (l.map gzv)),.clo 42 [.ptr 0 1 0]] [.box 1 [.row 1 1],rwZ 1 [0],.dead 1] [] [.box 1 [.row 1 2],rwZ 2 (bpL (bn (allA l)) (aW l) (aW l)),.dead 1]:=by
 have hIt:=h30.items (by omega)
 have hAc:=h30.Rh
 have hDl:=h30.jI
 have hAl:(bn (allA l)).length≤1000:=Df h30
 have hnd:=xV l
 generalize bn (allA l)=A at *
 generalize aW l=D at *
 have hRu:=Am A D hAl (by omega)
 have hDy:∀d,_:=fun d=>ze A D d hnd (by omega)
 have hOn:∀(d:Ei) (zs:List Int),zs.length≤1000000→_:=fun d zs h=>QD A D d zs (Nat.le_trans (o7 A D d) (by omega)) h
 have hmd:(D.map eiv).length=D.length:=List.length_map _
 refine PCB.aj (T:=(tbF fun r=>Nat.beq r 1)) aS bB rfl mixed Tryz.func34 rfl rfl rfl (Nat.le_of_ble_eq_true rfl) rfl ?_;intro Γ C WK LP fin h0 hk0 hW hC hB hR hLP hfin
 have h04:Γ.n0=3:=h0
 (try (conv=>whnf));(repeat ((first|refine qT ?_|refine qF ?_|refine qO ?_|(with_reducible intro z hz);(first|(replace hz:=hz (by omega);subst hz)|subst hz)|(refine ah.mk _ (hC _ _ _ (PCw.of hIt)) (fun js hjs=>?_);subst hjs));(try (conv=>whnf))))
 refine hW _ _ _ aC.spare ?_
 (try (conv=>whnf));(repeat ((first|refine qT ?_|refine qF ?_|refine qO ?_|(with_reducible intro z hz);(first|(replace hz:=hz (by omega);subst hz)|subst hz)|(refine ah.mk _ (hC _ _ _ (PCw.of hAc)) (fun js hjs=>?_);subst hjs));(try (conv=>whnf))))
 refine bV.mk ([.agg [.row 0 2,.imm (.sl 28 ((evs D).map eiv)),.row 1 2]]) ([.map (.int .i64) 2 (mkL kI stI (stM [] A)),.map (.int .i64) 2 (mkL kI gL (orM [] D))]) (hB _ _ _ _ _ (hRu)) ?_
 (try (conv=>whnf));(repeat ((first|refine qT ?_|refine qF ?_|refine qO ?_|(with_reducible intro z hz);(first|(replace hz:=hz (by omega);subst hz)|subst hz));(try (conv=>whnf))))
 refine hLP _ _ _ Nat (fun k=>⟨[(1,.clo 42 [.ptr 0 1 0]),(5,.ptr 7 1 0),(14,.imm (.sl 28 (D.map eiv))),(15,.imm (.int .i64 (D.length:Nat))),(16,.imm (.int .i64 (k:Nat)))],[.box 1 [.row 1 2],rwZ 2 (bpL A D (D.take k)),.dead 1,.dead 0,.map (.int .i64) 78 (mkL kI gL (orM [] D)),.dead 0,.map (.int .i64) 1 (mkL kI stI (stM [] A)),.box 1 [.row 6 1,.imm (.sl 28 ((evs D).map eiv)),.row 4 78]]⟩) (fun k=>k≤D.length) (fun k=>D.length - k) 0 (Nat.zero_le _) ((aC.renew 1 2 rfl (by first|omega|(intro _;rw[hk0 _ _ rfl];exact Nat.le_of_ble_eq_true rfl)) (by repeat (first|exact trivial|refine And.intro (bA _ _ _ _) ?_|refine And.intro rfl ?_))).trans (qSL 8 rfl rfl (hE:=by (repeat ((conv=>whnf);first|exact trivial|refine And.intro (by first|exact av.any|exact av.eq (by with_reducible rfl) rfl|exact av.eq (congrArg (fun z=>PV.imm (IV.int IntKind.i64 z)) (by first|omega|(simp[hmd];done)|(simp[hmd];omega))) rfl|exact av.eq (by first|(simp[hmd];done)|fail) rfl|exact av.eq rfl rfl|exact av.le rfl (ILe.nil _)) ?_))))) ?_
 intro k hk
 have hho:=Nat.lt_or_ge k D.length
 cases hho with
 |inl hlt=>
  obtain⟨d,hd⟩:∃d,D[k]?=some d:=⟨D[k],List.getElem?_eq_getElem hlt⟩
  have hst:=Ni (A:=A) (D:=D) hd
  have hel:=Ca A D (D.take k)
  rw[List.length_take]at hel
  have hel2:(bpL A D (D.take k)).length≤1000000:=by
   refine Nat.le_trans hel (Nat.le_trans (Nat.add_le_add_left (Nat.mul_le_mul (show min k D.length≤300 by omega) (show 2+2*D.length≤602 by omega)) 1) (by decide))
  clear hel
  generalize bpL A D (D.take k)=zs at *
  have hAm:=uW d.it.kind
  have hDd:=hDy d
  have hOd:=hOn d zs hel2
  generalize cK A D d=R at *
  rw[show eiv d=IV.agg _ from rfl]at hDd hOd
  cases hc:chB d.it.kind with
  |true=>
   rw[hc]at hAm
   rw[hc,if_pos rfl]at hst
   (try (conv=>whnf));(repeat ((first|refine qT ?_|refine qF ?_|refine qO ?_|(with_reducible intro z hz);(first|(replace hz:=hz (by omega);subst hz)|subst hz));(try (conv=>whnf))))
   refine Idx.mk k (eiv d) _ rfl (by simp[hd]) rfl ?_
   (try (conv=>whnf));(repeat ((first|refine qT ?_|refine qF ?_|refine qO ?_|(with_reducible intro z hz);(first|(replace hz:=hz (by omega);subst hz)|subst hz)|(refine ah.mk _ (hC _ _ _ (PCw.of hAm)) (fun js hjs=>?_);subst hjs));(try (conv=>whnf))))
   refine bV.mk ([.imm (.sl 2 (R.map Pe.spv))]) (mpC 1 (stM [] A) (orM [] D)) (hB _ _ _ _ _ (hDd)) ?_
   (try (conv=>whnf));(repeat ((first|refine qT ?_|refine qF ?_|refine qO ?_|(with_reducible intro z hz);(first|(replace hz:=hz (by omega);subst hz)|subst hz));(try (conv=>whnf))))
   refine bN.mk (zs.map kI) rfl ?_
   (try (conv=>whnf));(repeat ((first|refine qT ?_|refine qF ?_|refine qO ?_|(with_reducible intro z hz);(first|(replace hz:=hz (by omega);subst hz)|subst hz));(try (conv=>whnf))))
   refine bV.mk ([]) ([.box 1 [.row 1 2],IG 2 (zs++bnd R)]) (hB _ _ _ _ _ (hOd)) ?_
   (try (conv=>whnf));(repeat ((first|refine qT ?_|refine qF ?_|refine qO ?_|(with_reducible intro z hz);(first|(replace hz:=hz (by omega);subst hz)|subst hz));(try (conv=>whnf))))
   exact⟨k+1,by omega,by dsimp only;omega,by
    dsimp only[]
    rw[hst]
    exact (aC.renew 1 2 rfl (by first|omega|(intro _;rw[hk0 _ _ rfl];exact Nat.le_of_ble_eq_true rfl)) (by repeat (first|exact trivial|refine And.intro (bA _ _ _ _) ?_|refine And.intro rfl ?_))).trans (qSL 8 rfl rfl)⟩
  |false=>
   rw[hc]at hAm
   rw[hc,if_neg (by simp)]at hst
   (try (conv=>whnf));(repeat ((first|refine qT ?_|refine qF ?_|refine qO ?_|(with_reducible intro z hz);(first|(replace hz:=hz (by omega);subst hz)|subst hz));(try (conv=>whnf))))
   refine Idx.mk k (eiv d) _ rfl (by simp[hd]) rfl ?_
   (try (conv=>whnf));(repeat ((first|refine qT ?_|refine qF ?_|refine qO ?_|(with_reducible intro z hz);(first|(replace hz:=hz (by omega);subst hz)|subst hz)|(refine ah.mk _ (hC _ _ _ (PCw.of hAm)) (fun js hjs=>?_);subst hjs));(try (conv=>whnf))))
   exact⟨k+1,by omega,by dsimp only;omega,by
    dsimp only[]
    rw[hst]
    exact (qSL 8 rfl rfl)⟩
 |inr hge=>
  obtain rfl:k=D.length:=by omega
  rw[List.take_length]
  (try (conv=>whnf));(repeat ((first|refine qT ?_|refine qF ?_|refine qO ?_|(with_reducible intro z hz);(first|(replace hz:=hz (by omega);subst hz)|subst hz));(try (conv=>whnf))))
  refine hfin _ ?_
  exact (qSL 3 rfl rfl)
end F
end Go.Proofs.YtfjibfdelbodjaaGreat.Po
namespace Go.Proofs.YtfjibfdelbodjaaGreat.Po
open Go Go.Pv Go.RowKit
set_option linter.unusedSimpArgs false
open Lab Lcs Go.Proofs.YtfjibfdelbodjaaGreat Go.Proofs.YtfjibfdelbodjaaGreat.Pu
set_option maxRecDepth 10000
set_option maxHeartbeats 32000000
namespace F
noncomputable def brk (l:List Gz):List Int:=ded (BQ (bpL (bn (allA l)) (aW l) (aW l)))
theorem Fx {l:List Gz} {m:Nat} (hm:m≤300) (h:bO l m):(bpL (bn (allA l)) (aW l) (aW l)).length≤1000000:=by
 have h1:=Ca (bn (allA l)) (aW l) (aW l)
 have h2:=h.jI
 exact Nat.le_trans h1 (Nat.le_trans (Nat.add_le_add_left (Nat.mul_le_mul (show (aW l).length≤300 by omega) (show 2+2*(aW l).length≤602 by omega)) 1) (by decide))
theorem II {l:List Gz} {m:Nat} (hm:m≤300) (h:bO l m):PC Tryz.prog aM 20 [.sl 4 (l.map gzv)] [.sl 1 ((brk l).map kI)]:=by
 have hV:=El hm h
 have hsm:=Fx hm h
 unfold brk
 generalize bpL (bn (allA l)) (aW l) (aW l)=zs at *
 have hS:=Lc zs (by omega)
 have hSl:(BQ zs).length=zs.length:=List.length_mergeSort zs
 generalize BQ zs=ss at *
 rcases Cv ss (by omega) with hCm|hCm
 ·refine PC.aj (T:=dZ) aS bB rfl mixed Tryz.func20 rfl rfl (Nat.le_of_ble_eq_true rfl) ?_;intro Γ C WK LP fin h0 hW hC hB hR hLP hfin
  have h00:Γ.n0=0:=h0
  (try (conv=>whnf));(repeat ((first|refine qT ?_|refine qF ?_|refine qO ?_|(with_reducible intro z hz);(first|(replace hz:=hz (by omega);subst hz)|subst hz));(try (conv=>whnf))))
  refine bN.mk [kI 0] rfl ?_
  (try (conv=>whnf));(repeat ((first|refine qT ?_|refine qF ?_|refine qO ?_|(with_reducible intro z hz);(first|(replace hz:=hz (by omega);subst hz)|subst hz));(try (conv=>whnf))))
  refine bV.mk ([]) ([.box 1 [.row 1 2],IG 2 zs,.dead 1]) (hB _ _ _ _ _ (hV)) ?_
  (try (conv=>whnf));(repeat ((first|refine qT ?_|refine qF ?_|refine qO ?_|(with_reducible intro z hz);(first|(replace hz:=hz (by omega);subst hz)|subst hz));(try (conv=>whnf))))
  refine bN.mk (zs.map kI) rfl ?_
  (try (conv=>whnf));(repeat ((first|refine qT ?_|refine qF ?_|refine qO ?_|(with_reducible intro z hz);(first|(replace hz:=hz (by omega);subst hz)|subst hz));(try (conv=>whnf))))
  refine bV.mk ([]) ([IG 1 ss]) (hB _ _ _ _ _ (hS)) ?_
  (try (conv=>whnf));(repeat ((first|refine qT ?_|refine qF ?_|refine qO ?_|(with_reducible intro z hz);(first|(replace hz:=hz (by omega);subst hz)|subst hz));(try (conv=>whnf))))
  refine bN.mk (ss.map kI) rfl ?_
  (try (conv=>whnf));(repeat ((first|refine qT ?_|refine qF ?_|refine qO ?_|(with_reducible intro z hz);(first|(replace hz:=hz (by omega);subst hz)|subst hz));(try (conv=>whnf))))
  refine bV.mk ([.row 0 1]) ([IG 1 (ded ss)]) (hB _ _ _ _ _ (hCm)) ?_
  (try (conv=>whnf));(repeat ((first|refine qT ?_|refine qF ?_|refine qO ?_|(with_reducible intro z hz);(first|(replace hz:=hz (by omega);subst hz)|subst hz));(try (conv=>whnf))))
  refine bN.mk ((ded ss).map kI) rfl ?_
  exact hfin _ (aA.refl _)
 ·refine PC.aj (T:=dZ) aS bB rfl mixed Tryz.func20 rfl rfl (Nat.le_of_ble_eq_true rfl) ?_;intro Γ C WK LP fin h0 hW hC hB hR hLP hfin
  have h00:Γ.n0=0:=h0
  (try (conv=>whnf));(repeat ((first|refine qT ?_|refine qF ?_|refine qO ?_|(with_reducible intro z hz);(first|(replace hz:=hz (by omega);subst hz)|subst hz));(try (conv=>whnf))))
  refine bN.mk [kI 0] rfl ?_
  (try (conv=>whnf));(repeat ((first|refine qT ?_|refine qF ?_|refine qO ?_|(with_reducible intro z hz);(first|(replace hz:=hz (by omega);subst hz)|subst hz));(try (conv=>whnf))))
  refine bV.mk ([]) ([.box 1 [.row 1 2],IG 2 zs,.dead 1]) (hB _ _ _ _ _ (hV)) ?_
  (try (conv=>whnf));(repeat ((first|refine qT ?_|refine qF ?_|refine qO ?_|(with_reducible intro z hz);(first|(replace hz:=hz (by omega);subst hz)|subst hz));(try (conv=>whnf))))
  refine bN.mk (zs.map kI) rfl ?_
  (try (conv=>whnf));(repeat ((first|refine qT ?_|refine qF ?_|refine qO ?_|(with_reducible intro z hz);(first|(replace hz:=hz (by omega);subst hz)|subst hz));(try (conv=>whnf))))
  refine bV.mk ([]) ([IG 1 ss]) (hB _ _ _ _ _ (hS)) ?_
  (try (conv=>whnf));(repeat ((first|refine qT ?_|refine qF ?_|refine qO ?_|(with_reducible intro z hz);(first|(replace hz:=hz (by omega);subst hz)|subst hz));(try (conv=>whnf))))
  refine bN.mk (ss.map kI) rfl ?_
  (try (conv=>whnf));(repeat ((first|refine qT ?_|refine qF ?_|refine qO ?_|(with_reducible intro z hz);(first|(replace hz:=hz (by omega);subst hz)|subst hz));(try (conv=>whnf))))
  refine bV.mk ([.row 0 2]) ([IG 2 (ded ss)]) (hB _ _ _ _ _ (hCm)) ?_
  (try (conv=>whnf));(repeat ((first|refine qT ?_|refine qF ?_|refine qO ?_|(with_reducible intro z hz);(first|(replace hz:=hz (by omega);subst hz)|subst hz));(try (conv=>whnf))))
  refine bN.mk ((ded ss).map kI) rfl ?_
  exact hfin _ (aA.refl _)
noncomputable def onG (l:List Gz) (day:Int) (p:Str):List Ei:=onL (bn (allA l)) (aW l) p day (aW l)
theorem Jv {l:List Gz} {m:Nat} (hm:m≤300) (h:bO l m) (day:Int) (p:Str):PC Tryz.prog aM 14 [.int .i64 day,.str p,.sl 4 (l.map gzv)] [.sl 28 ((onG l day p).map eiv)]:=by
 have hV:=EN hm h p day
 unfold onG
 generalize onL (bn (allA l)) (aW l) p day (aW l)=es at *
 refine PC.aj (T:=dZ) aS bB rfl mixed Tryz.func14 rfl rfl (Nat.le_of_ble_eq_true rfl) ?_;intro Γ C WK LP fin h0 hW hC hB hR hLP hfin
 have h00:Γ.n0=0:=h0
 (try (conv=>whnf));(repeat ((first|refine qT ?_|refine qF ?_|refine qO ?_|(with_reducible intro z hz);(first|(replace hz:=hz (by omega);subst hz)|subst hz));(try (conv=>whnf))))
 refine bV.mk ([]) ([.box 1 [.imm (.str p)],.box 1 [.imm (.int .i64 day)],.box 1 [.row 3 2],SK 2 es]) (hB _ _ _ _ _ (hV)) ?_
 (try (conv=>whnf));(repeat ((first|refine qT ?_|refine qF ?_|refine qO ?_|(with_reducible intro z hz);(first|(replace hz:=hz (by omega);subst hz)|subst hz));(try (conv=>whnf))))
 refine bN.mk (es.map eiv) rfl ?_
 exact hfin _ (aA.refl _)
end F
end Go.Proofs.YtfjibfdelbodjaaGreat.Po
