/-
  The reference's Few, for trees. The reference's Few, for instructions.
-/
import Derived.Test.YtfjibfdelbodjaaGreatHw
namespace Go.Proofs.YtfjibfdelbodjaaGreat.Po
open Go Go.Pv Go.RowKit
set_option linter.unusedSimpArgs false
open Lab Lcs Go.Proofs.YtfjibfdelbodjaaGreat Go.Proofs.YtfjibfdelbodjaaGreat.Pu
set_option maxRecDepth 10000
set_option maxHeartbeats 32000000
def o9 (s:Str):Bool:=decide (s.size≤100)
def kJ (w:List Wd):Bool:=w.all (fun x=>o9 x.text)&&decide (w.length≤300)
theorem gy {α:Type} {f:α→Bool} {l:List α} {k:Nat} {x:α} (hx:l[k]?=some x) (h:(l.take k).all f=true) (hf:f x=true):(l.take (k+1)).all f=true:=by
 rw[take_at hx,List.all_append,h]
 simp[hf]
theorem jA {α:Type} {f:α→Bool} {l:List α} {k:Nat} {x:α} (hx:l[k]?=some x) (hf:f x=false):l.all f=false:=by
 rw[List.all_eq_false]
 exact⟨x,List.mem_of_getElem? hx,by rw[hf];decide⟩
def Fits (u:Ut):Prop:=∀x∈u.all,x.head.length≤maxLen∧x.words.length≤maxLen∧x.kids.length≤maxLen
theorem Fits.self {u:Ut} (h:Fits u):u.head.length≤maxLen∧u.words.length≤maxLen∧u.kids.length≤maxLen:=h u (by rw[Ut.all_eq];exact List.mem_cons_self)
theorem NW {u k:Ut} (hk:k∈u.kids):∀x∈k.all,x∈u.all:=by
 obtain⟨j,hj,rfl⟩:=List.getElem_of_mem hk
 cases u with
 |mk id kind label head words kids=>exact Py (List.getElem?_eq_getElem hj)
theorem Fits.kid {u k:Ut} (h:Fits u) (hk:k∈u.kids):Fits k:=fun x hx=>h x (NW hk x hx)
def uR (x:Ut):Bool:=decide (x.label.size≤30)&&kJ x.head&&kJ x.words
def Small (most:Nat) (u:Ut):Prop:=u.count≤most∧u.depth≤20∧u.all.all uR=true
mutual
def jY:Ut→Int→Int→Int
 |.mk _ _ _ _ _ kids,d,m=>if 20 < d then m+1 else jJ kids d m 1
def jJ:List Ut→Int→Int→Int→Int
 |[],_,_,n=>n
 |u::r,d,m,n=>if n≤m then jJ r d m (n+jY u (d+1) (m - n)) else n
end
theorem MZ (u:Ut) (d m:Int):jY u d m=if 20 < d then m+1 else jJ u.kids d m 1:=by
 cases u;rw[jY];rfl
mutual
theorem rQ:∀(u:Ut) (d m:Int),0≤m→1≤jY u d m∧jY u d m≤m+1
 |.mk _ _ _ _ _ kids,d,m,hm=>by
  rw[jY]
  split
  ·omega
  ·exact AU kids d m 1 (by omega) (by omega)
theorem AU:∀(l:List Ut) (d m n:Int),1≤n→n≤m+1→1≤jJ l d m n∧jJ l d m n≤m+1
 |[],_,_,n,h1,h2=>by rw[jJ];omega
 |u::r,d,m,n,h1,h2=>by
  rw[jJ]
  split
  ·have:=rQ u (d+1) (m - n) (by omega)
   exact AU r d m _ (by omega) (by omega)
  ·omega
end
mutual
theorem zm:∀(u:Ut) (d m:Int),0≤m→jY u d m≤m→jY u d m=u.count∧d+u.depth≤20
 |.mk id kind label head words kids,d,m,hm,h=>by
  rw[jY]at h ⊢
  split at h
  ·omega
  ·rename_i hd
   rw[if_neg hd]
   have:=zu kids d m 1 (by omega) (by omega) h
   rw[count_mk,N8]
   omega
theorem zu:∀(l:List Ut) (d m n:Int),1≤n→d≤20→jJ l d m n≤m→jJ l d m n=n+Ut.counts l∧d+Ut.depths l≤20
 |[],d,m,n,h1,h2,h=>by
  rw[jJ]at h ⊢
  simp only[Ut.counts,Ut.depths]
  omega
 |u::r,d,m,n,h1,h2,h=>by
  rw[jJ]at h ⊢
  split at h
  ·rename_i hn
   rw[if_pos hn]
   have hp:=rQ u (d+1) (m - n) (by omega)
   have h3:=zu r d m (n+jY u (d+1) (m - n)) (by omega) h2 h
   have h4:=zm u (d+1) (m - n) (by omega) (by omega)
   simp only[Ut.counts,Ut.depths]
   omega
  ·omega
end
theorem Qz (N:Nat):∀(u:Ut) (d m:Int),u.count≤N→0≤d→d≤21→0≤m→m≤1000→PC Tryz.prog aM 118 [uv u,.int .i64 d,.int .i64 m] [.int .i64 (jY u d m)]:=by
 induction N with
 |zero=>intro u d m h;have:=oz u;omega
 |succ N ih=>
 intro u d m hN h0 hd hm0 hm
 have hue:=fO u
 have hcu:=Ut.count_eq u
 have hkl:=kD u.kids
 have hml:(u.kids.map uv).length=u.kids.length:=List.length_map _
 rw[MZ,hue]
 by_cases hlt:20 < d
 ·rw[if_pos hlt]
  refine PC.aj (T:=tb0) ay aH rfl mixed Tryz.func118 rfl rfl (Nat.le_of_ble_eq_true rfl) ?_;intro Γ C WK LP fin h0 hW hC hB hR hLP hfin
  (try (conv=>whnf));(repeat ((first|refine qT ?_|refine qF ?_|refine qO ?_|(with_reducible intro z hz);(first|(replace hz:=hz (by omega);subst hz)|subst hz));(try (conv=>whnf))))
  exact hfin _ (aA.refl _)
 ·rw[if_neg hlt]
  refine PC.aj (T:=tb0) ay aH rfl mixed Tryz.func118 rfl rfl (Nat.le_of_ble_eq_true rfl) ?_;intro Γ C WK LP fin h0 hW hC hB hR hLP hfin
  (try (conv=>whnf));(repeat ((first|refine qT ?_|refine qF ?_|refine qO ?_|(with_reducible intro z hz);(first|(replace hz:=hz (by omega);subst hz)|subst hz));(try (conv=>whnf))))
  refine hLP _ _ _ (Nat×Int) (fun p=>⟨[(1,.imm (.int .i64 d)),(2,.imm (.int .i64 m)),(3,.ptr 0 1 0),(7,.imm (.int .i64 p.2)),(8,.imm (.int .i64 (p.1:Nat)))],[.box 1 [.imm (.int .i64 u.id.x),.imm (.int .i64 u.id.y),.imm (.int .i64 u.id.z),.imm (.int .i64 u.kind),.imm (.str u.label),.imm (.sl 4 (u.head.map wdv)),.imm (.sl 4 (u.words.map wdv)),.imm (.sl 8 (u.kids.map uv))]]⟩) (fun p=>p.1≤u.kids.length∧p.1+1≤p.2∧p.2≤m+1∧jJ (u.kids.drop p.1) d m p.2=jJ u.kids d m 1) (fun p=>u.kids.length - p.1) (0,1) ⟨Nat.zero_le _,by dsimp only;omega,by dsimp only;omega,rfl⟩ (qSL 1 rfl rfl) ?_
  rintro⟨k,n⟩ ⟨hk,hkn,hn,hinv⟩
  dsimp only at hk hkn hn hinv ⊢
  have hho:=Nat.lt_or_ge k u.kids.length
  cases hho with
  |inl hlt2=>
   obtain⟨x,hx⟩:∃x,u.kids[k]?=some x:=⟨u.kids[k],List.getElem?_eq_getElem hlt2⟩
   have hdrop:u.kids.drop k=x::u.kids.drop (k+1):=by
    rw[List.drop_eq_getElem_cons hlt2]
    congr 1
    exact (List.getElem?_eq_some_iff.1 hx).2
   rw[hdrop,jJ]at hinv
   by_cases hnm:n≤m
   ·have hux:=fO x
    have hp:=rQ x (d+1) (m - n) (by omega)
    have hkc:=Cn hx
    have hI:=ih x (d+1) (m - n) (by omega) (by omega) (by omega) (by omega) (by omega)
    rw[if_pos hnm]at hinv
    generalize jY x (d+1) (m - n)=q at hI hp hinv
    rw[hux]at hI
    (try (conv=>whnf));(repeat ((first|refine qT ?_|refine qF ?_|refine qO ?_|(with_reducible intro z hz);(first|(replace hz:=hz (by omega);subst hz)|subst hz));(try (conv=>whnf))))
    refine Idx.mk k (uv x) _ rfl (by simp[hx]) (by rw[hux];try rfl) ?_
    (try (conv=>whnf));(repeat ((first|refine qT ?_|refine qF ?_|refine qO ?_|(with_reducible intro z hz);(first|(replace hz:=hz (by omega);subst hz)|subst hz)|(refine ah.mk _ (hC _ _ _ (PCw.of hI)) (fun js hjs=>?_);subst hjs));(try (conv=>whnf))))
    exact⟨(k+1,n+q),⟨by dsimp only;omega,by dsimp only;omega,by dsimp only;omega,hinv⟩,by dsimp only;omega,(qSL 1 rfl rfl)⟩
   ·rw[if_neg hnm]at hinv
    (try (conv=>whnf));(repeat ((first|refine qT ?_|refine qF ?_|refine qO ?_|(with_reducible intro z hz);(first|(replace hz:=hz (by omega);subst hz)|subst hz));(try (conv=>whnf))))
    refine hfin _ ?_
    rw[←hinv]
    exact aA.refl _
  |inr hge=>
   rw[List.drop_eq_nil_of_le hge,jJ]at hinv
   (try (conv=>whnf));(repeat ((first|refine qT ?_|refine qF ?_|refine qO ?_|(with_reducible intro z hz);(first|(replace hz:=hz (by omega);subst hz)|subst hz));(try (conv=>whnf))))
   refine hfin _ ?_
   rw[←hinv]
   exact aA.refl _
theorem zf (l:List Wd) (hl:l.length≤9223372036854775807):PC Tryz.prog aM 147 [.sl 4 (l.map wdv)] [.bool (kJ l)]:=by
 have h1:(l.map wdv).length=l.length:=List.length_map _
 refine PC.aj (T:=tb0) ay aH rfl mixed Tryz.func147 rfl rfl (Nat.le_of_ble_eq_true rfl) ?_;intro Γ C WK LP fin h0 hW hC hB hR hLP hfin
 (try (conv=>whnf));(repeat ((first|refine qT ?_|refine qF ?_|refine qO ?_|(with_reducible intro z hz);(first|(replace hz:=hz (by omega);subst hz)|subst hz));(try (conv=>whnf))))
 refine hLP _ _ _ Nat (fun k=>⟨[(0,.imm (.sl 4 (l.map wdv))),(3,.imm (.int .i64 (k:Nat)))],[]⟩) (fun k=>k≤l.length∧(l.take k).all (fun x=>o9 x.text)=true) (fun k=>l.length - k) 0 ⟨Nat.zero_le _,rfl⟩ (qSL 0 rfl rfl) ?_
 rintro k ⟨hk,hpre⟩
 have hho:=Nat.lt_or_ge k l.length
 cases hho with
 |inl hlt=>
  obtain⟨y,hy⟩:∃y,l[k]?=some y:=⟨l[k],List.getElem?_eq_getElem hlt⟩
  by_cases hs:y.text.size≤100
  ·(try (conv=>whnf));(repeat ((first|refine qT ?_|refine qF ?_|refine qO ?_|(with_reducible intro z hz);(first|(replace hz:=hz (by omega);subst hz)|subst hz));(try (conv=>whnf))))
   refine Idx.mk k (wdv y) _ rfl (by simp[hy]) rfl ?_
   (try (conv=>whnf));(repeat ((first|refine qT ?_|refine qF ?_|refine qO ?_|(with_reducible intro z hz);(first|(replace hz:=hz (by omega);subst hz)|subst hz));(try (conv=>whnf))))
   exact⟨k+1,⟨by omega,gy hy hpre (by unfold o9;exact decide_eq_true hs)⟩,by dsimp only;omega,(qSL 0 rfl rfl)⟩
  ·rw[show kJ l=false by unfold kJ;rw[jA hy (by unfold o9;exact decide_eq_false hs)];rfl]at hfin
   (try (conv=>whnf));(repeat ((first|refine qT ?_|refine qF ?_|refine qO ?_|(with_reducible intro z hz);(first|(replace hz:=hz (by omega);subst hz)|subst hz));(try (conv=>whnf))))
   refine Idx.mk k (wdv y) _ rfl (by simp[hy]) rfl ?_
   (try (conv=>whnf));(repeat ((first|refine qT ?_|refine qF ?_|refine qO ?_|(with_reducible intro z hz);(first|(replace hz:=hz (by omega);subst hz)|subst hz));(try (conv=>whnf))))
   exact hfin _ (aA.refl _)
 |inr hge=>
  obtain rfl:k=l.length:=by omega
  rw[List.take_length]at hpre
  rw[show kJ l=decide (l.length≤300) by unfold kJ;rw[hpre];rfl]at hfin
  by_cases hc:l.length≤300
  ·rw[decide_eq_true hc]at hfin
   (try (conv=>whnf));(repeat ((first|refine qT ?_|refine qF ?_|refine qO ?_|(with_reducible intro z hz);(first|(replace hz:=hz (by omega);subst hz)|subst hz));(try (conv=>whnf))))
   exact hfin _ (aA.refl _)
  ·rw[decide_eq_false hc]at hfin
   (try (conv=>whnf));(repeat ((first|refine qT ?_|refine qF ?_|refine qO ?_|(with_reducible intro z hz);(first|(replace hz:=hz (by omega);subst hz)|subst hz));(try (conv=>whnf))))
   exact hfin _ (aA.refl _)
theorem all_cons (u:Ut) (p:Ut→Bool):u.all.all p=(p u&&(Ut.qB u.kids).all p):=by rw[Ut.all_eq,List.all_cons]
theorem vK (p:Ut→Bool):∀l:List Ut,(Ut.qB l).all p=l.all fun x=>x.all.all p
 |[]=>rfl
 |x::r=>by unfold Ut.qB;rw[List.all_append,vK p r,List.all_cons]
theorem K6 (N:Nat):∀u:Ut,u.count≤N→Fits u→PC Tryz.prog aM 119 [uv u] [.bool (u.all.all uR)]:=by
 induction N with
 |zero=>intro u h;have:=oz u;omega
 |succ N ih=>
 intro u hN hf
 have hue:=fO u
 obtain⟨f1,f2,f3⟩:=hf.self
 have hH:=zf u.head (by unfold maxLen at f1;omega)
 have hWd:=zf u.words (by unfold maxLen at f2;omega)
 have hkl:(u.kids.map uv).length=u.kids.length:=List.length_map _
 rw[all_cons,vK]
 unfold maxLen at f3
 cases hb:uR u with
 |false=>
  rw[Bool.false_and,hue]
  unfold uR at hb
  by_cases hl:u.label.size≤30
  ·rw[decide_eq_true hl,Bool.true_and]at hb
   cases h1:kJ u.head with
   |false=>
    rw[h1]at hH
    refine PC.aj (T:=tb0) ay aH rfl mixed Tryz.func119 rfl rfl (Nat.le_of_ble_eq_true rfl) ?_;intro Γ C WK LP fin h0 hW hC hB hR hLP hfin
    (try (conv=>whnf));(repeat ((first|refine qT ?_|refine qF ?_|refine qO ?_|(with_reducible intro z hz);(first|(replace hz:=hz (by omega);subst hz)|subst hz)|(refine ah.mk _ (hC _ _ _ (PCw.of hH)) (fun js hjs=>?_);subst hjs));(try (conv=>whnf))))
    exact hfin _ (aA.refl _)
   |true=>
    rw[h1,Bool.true_and]at hb
    rw[h1]at hH
    rw[hb]at hWd
    refine PC.aj (T:=tb0) ay aH rfl mixed Tryz.func119 rfl rfl (Nat.le_of_ble_eq_true rfl) ?_;intro Γ C WK LP fin h0 hW hC hB hR hLP hfin
    (try (conv=>whnf));(repeat ((first|refine qT ?_|refine qF ?_|refine qO ?_|(with_reducible intro z hz);(first|(replace hz:=hz (by omega);subst hz)|subst hz)|(refine ah.mk _ (hC _ _ _ (PCw.of hH)) (fun js hjs=>?_);subst hjs)|(refine ah.mk _ (hC _ _ _ (PCw.of hWd)) (fun js hjs=>?_);subst hjs));(try (conv=>whnf))))
    exact hfin _ (aA.refl _)
  ·refine PC.aj (T:=tb0) ay aH rfl mixed Tryz.func119 rfl rfl (Nat.le_of_ble_eq_true rfl) ?_;intro Γ C WK LP fin h0 hW hC hB hR hLP hfin
   (try (conv=>whnf));(repeat ((first|refine qT ?_|refine qF ?_|refine qO ?_|(with_reducible intro z hz);(first|(replace hz:=hz (by omega);subst hz)|subst hz));(try (conv=>whnf))))
   exact hfin _ (aA.refl _)
 |true=>
  rw[Bool.true_and,hue]
  unfold uR at hb
  rw[Bool.and_eq_true,Bool.and_eq_true,decide_eq_true_eq]at hb
  obtain⟨⟨hl,h1⟩,h2⟩:=hb
  rw[h1]at hH
  rw[h2]at hWd
  refine PC.aj (T:=tb0) ay aH rfl mixed Tryz.func119 rfl rfl (Nat.le_of_ble_eq_true rfl) ?_;intro Γ C WK LP fin h0 hW hC hB hR hLP hfin
  (try (conv=>whnf));(repeat ((first|refine qT ?_|refine qF ?_|refine qO ?_|(with_reducible intro z hz);(first|(replace hz:=hz (by omega);subst hz)|subst hz)|(refine ah.mk _ (hC _ _ _ (PCw.of hH)) (fun js hjs=>?_);subst hjs)|(refine ah.mk _ (hC _ _ _ (PCw.of hWd)) (fun js hjs=>?_);subst hjs));(try (conv=>whnf))))
  refine hLP _ _ _ Nat (fun k=>⟨[(1,.ptr 0 1 0),(3,.imm (.int .i64 (k:Nat)))],[.box 1 [.imm (.int .i64 u.id.x),.imm (.int .i64 u.id.y),.imm (.int .i64 u.id.z),.imm (.int .i64 u.kind),.imm (.str u.label),.imm (.sl 4 (u.head.map wdv)),.imm (.sl 4 (u.words.map wdv)),.imm (.sl 8 (u.kids.map uv))]]⟩) (fun k=>k≤u.kids.length∧(u.kids.take k).all (fun x=>x.all.all uR)=true) (fun k=>u.kids.length - k) 0 ⟨Nat.zero_le _,rfl⟩ (qSL 1 rfl rfl) ?_
  rintro k ⟨hk,hpre⟩
  have hho:=Nat.lt_or_ge k u.kids.length
  cases hho with
  |inl hlt=>
   obtain⟨x,hx⟩:∃x,u.kids[k]?=some x:=⟨u.kids[k],List.getElem?_eq_getElem hlt⟩
   have hc:=Cn hx
   have hux:=fO x
   have hI:=ih x (by omega) (hf.kid (List.mem_of_getElem? hx))
   rw[hux]at hI
   cases hb:x.all.all uR with
   |true=>
    rw[hb]at hI
    (try (conv=>whnf));(repeat ((first|refine qT ?_|refine qF ?_|refine qO ?_|(with_reducible intro z hz);(first|(replace hz:=hz (by omega);subst hz)|subst hz));(try (conv=>whnf))))
    refine Idx.mk k (uv x) _ rfl (by simp[hx]) (by rw[hux];try rfl) ?_
    (try (conv=>whnf));(repeat ((first|refine qT ?_|refine qF ?_|refine qO ?_|(with_reducible intro z hz);(first|(replace hz:=hz (by omega);subst hz)|subst hz)|(refine ah.mk _ (hC _ _ _ (PCw.of hI)) (fun js hjs=>?_);subst hjs));(try (conv=>whnf))))
    exact⟨k+1,⟨by omega,gy hx hpre hb⟩,by dsimp only;omega,(qSL 1 rfl rfl)⟩
   |false=>
    rw[hb]at hI
    rw[show (u.kids.all fun x=>x.all.all uR)=false from jA hx hb]at hfin
    (try (conv=>whnf));(repeat ((first|refine qT ?_|refine qF ?_|refine qO ?_|(with_reducible intro z hz);(first|(replace hz:=hz (by omega);subst hz)|subst hz));(try (conv=>whnf))))
    refine Idx.mk k (uv x) _ rfl (by simp[hx]) (by rw[hux];try rfl) ?_
    (try (conv=>whnf));(repeat ((first|refine qT ?_|refine qF ?_|refine qO ?_|(with_reducible intro z hz);(first|(replace hz:=hz (by omega);subst hz)|subst hz)|(refine ah.mk _ (hC _ _ _ (PCw.of hI)) (fun js hjs=>?_);subst hjs));(try (conv=>whnf))))
    exact hfin _ (aA.refl _)
  |inr hge=>
   obtain rfl:k=u.kids.length:=by omega
   rw[List.take_length]at hpre
   rw[hpre]at hfin
   (try (conv=>whnf));(repeat ((first|refine qT ?_|refine qF ?_|refine qO ?_|(with_reducible intro z hz);(first|(replace hz:=hz (by omega);subst hz)|subst hz));(try (conv=>whnf))))
   exact hfin _ (aA.refl _)
def Gi (u:Ut) (m:Int):Bool:=decide (jY u 0 m≤m)&&u.all.all uR
theorem LC {u:Ut} {m:Nat} (h:Gi u m=true):Small m u:=by
 unfold Gi at h
 simp only[Bool.and_eq_true,decide_eq_true_eq]at h
 obtain⟨h1,h2⟩:=h
 obtain⟨h3,h4⟩:=zm u 0 m (by omega) h1
 exact⟨by omega,by omega,h2⟩
theorem Qd (u:Ut) (m:Int) (hf:Fits u) (h0:0≤m) (hm:m≤1000):PC Tryz.prog aM 75 [uv u,.int .i64 m] [.bool (Gi u m)]:=by
 have hS:=Qz u.count u 0 m (Nat.le_refl _) (by omega) (by omega) h0 hm
 have hWo:=K6 u.count u (Nat.le_refl _) hf
 have hue:=fO u
 unfold Gi
 rw[hue]at hS hWo ⊢
 generalize u.all.all uR=b at hWo ⊢
 generalize jY u 0 m=q at hS ⊢
 by_cases hz:q≤m
 ·rw[decide_eq_true hz,Bool.true_and]
  refine PC.aj (T:=tb0) ay aH rfl mixed Tryz.func75 rfl rfl (Nat.le_of_ble_eq_true rfl) ?_;intro Γ C WK LP fin h0 hW hC hB hR hLP hfin
  (try (conv=>whnf));(repeat ((first|refine qT ?_|refine qF ?_|refine qO ?_|(with_reducible intro z hz);(first|(replace hz:=hz (by omega);subst hz)|subst hz)|(refine ah.mk _ (hC _ _ _ (PCw.of hS)) (fun js hjs=>?_);subst hjs)|(refine ah.mk _ (hC _ _ _ (PCw.of hWo)) (fun js hjs=>?_);subst hjs));(try (conv=>whnf))))
  exact hfin _ (aA.refl _)
 ·rw[decide_eq_false hz,Bool.false_and]
  refine PC.aj (T:=tb0) ay aH rfl mixed Tryz.func75 rfl rfl (Nat.le_of_ble_eq_true rfl) ?_;intro Γ C WK LP fin h0 hW hC hB hR hLP hfin
  (try (conv=>whnf));(repeat ((first|refine qT ?_|refine qF ?_|refine qO ?_|(with_reducible intro z hz);(first|(replace hz:=hz (by omega);subst hz)|subst hz)|(refine ah.mk _ (hC _ _ _ (PCw.of hS)) (fun js hjs=>?_);subst hjs));(try (conv=>whnf))))
  exact hfin _ (aA.refl _)
end Go.Proofs.YtfjibfdelbodjaaGreat.Po
namespace Go.Proofs.YtfjibfdelbodjaaGreat.Po
open Go Go.Pv Go.RowKit
set_option linter.unusedSimpArgs false
open Lab Lcs Go.Proofs.YtfjibfdelbodjaaGreat Go.Proofs.YtfjibfdelbodjaaGreat.Pu
set_option maxRecDepth 10000
set_option maxHeartbeats 32000000
def uQ (s:Stp):Bool:=decide (s.label.size≤100)
def dQ (x:It):Bool:=decide (x.p.length≤12∧x.q.length≤12∧x.old.length≤300∧x.new.length≤300∧x.lb.size≤100∧x.fr.size≤100∧x.se.size≤100∧x.ev.size≤100∧x.bys.length≤2)&&Gi x.unit 30
def tT (x:It):Bool:=match x.bys with
 |[]=>true
 |y::_=>y.bys.isEmpty
mutual
def fu:It→Bool
 |.mk kind p q z nth unit old new lb fr sk sd se a i d ev bys=>dQ (.mk kind p q z nth unit old new lb fr sk sd se a i d ev bys)&&(old.all o9&&(new.all o9&&(p.all uQ&&(q.all uQ&&iP bys))))
def iP:List It→Bool
 |[]=>true
 |x::r=>tT x&&fu x&&iP r
end
theorem JF (x:It):fu x=(dQ x&&(x.old.all o9&&(x.new.all o9&&(x.p.all uQ&&(x.q.all uQ&&iP x.bys))))):=by cases x;rw[fu];rfl
theorem oC:∀a b:List It,iP (a++b)=(iP a&&iP b)
 |[],b=>by simp[iP]
 |x::a,b=>by simp[iP,oC a b,Bool.and_assoc]
theorem wE {l:List It} {k:Nat} {x:It} (hx:l[k]?=some x) (h:(tT x&&fu x)=false):iP l=false:=by
 obtain⟨hk,he⟩:=List.getElem?_eq_some_iff.1 hx
 have:l=l.take k++x::l.drop (k+1):=by rw[←he,←List.drop_eq_getElem_cons hk,List.take_append_drop]
 rw[this,oC,iP,h]
 simp
inductive vR:It→Prop
 |mk (x:It) (hu:Fits x.unit) (h1:x.p.length≤maxLen∧x.q.length≤maxLen∧x.old.length≤maxLen∧x.new.length≤maxLen∧x.bys.length≤maxLen) (hb:∀y∈x.bys,vR y):vR x
theorem OT (x:It) (hx0:vR x):PC Tryz.prog aM 53 [itv x] [.bool (fu x)]:=by
 induction hx0 with
 |mk x hu h1 hb ih=>
 obtain⟨hp,hq,ho,hn,hbl⟩:=h1
 unfold maxLen at hp hq ho hn hbl
 have hFw:=Qd x.unit 30 hu (by omega) (by omega)
 rw[fO x.unit]at hFw
 have hpm:(x.p.map spv).length=x.p.length:=List.length_map _
 have hqm:(x.q.map spv).length=x.q.length:=List.length_map _
 have hom:(x.old.map IV.str).length=x.old.length:=List.length_map _
 have hnm:(x.new.map IV.str).length=x.new.length:=List.length_map _
 have hbm:(x.bys.map itv).length=x.bys.length:=List.length_map _
 have hfe:=JF x
 rw[aR x]
 by_cases c0:x.p.length≤12
 case neg=>
  have hf:fu x=false:=by rw[hfe,show dQ x=false by unfold dQ;rw[decide_eq_false (by intro h;exact c0 (by omega))];rfl];rfl
  rw[hf]
  clear hFw
  refine PC.aj (T:=tb0) ay aH rfl mixed Tryz.func53 rfl rfl (Nat.le_of_ble_eq_true rfl) ?_;intro Γ C WK LP fin h0 hW hC hB hR hLP hfin
  (try (conv=>whnf));(repeat ((first|refine qT ?_|refine qF ?_|refine qO ?_|(with_reducible intro z hz);(first|(replace hz:=hz (by omega);subst hz)|subst hz));(try (conv=>whnf))))
  exact hfin _ (aA.refl _)
 by_cases c1:x.q.length≤12
 case neg=>
  have hf:fu x=false:=by rw[hfe,show dQ x=false by unfold dQ;rw[decide_eq_false (by intro h;exact c1 (by omega))];rfl];rfl
  rw[hf]
  clear hFw
  refine PC.aj (T:=tb0) ay aH rfl mixed Tryz.func53 rfl rfl (Nat.le_of_ble_eq_true rfl) ?_;intro Γ C WK LP fin h0 hW hC hB hR hLP hfin
  (try (conv=>whnf));(repeat ((first|refine qT ?_|refine qF ?_|refine qO ?_|(with_reducible intro z hz);(first|(replace hz:=hz (by omega);subst hz)|subst hz));(try (conv=>whnf))))
  exact hfin _ (aA.refl _)
 by_cases c2:x.old.length≤300
 case neg=>
  have hf:fu x=false:=by rw[hfe,show dQ x=false by unfold dQ;rw[decide_eq_false (by intro h;exact c2 (by omega))];rfl];rfl
  rw[hf]
  clear hFw
  refine PC.aj (T:=tb0) ay aH rfl mixed Tryz.func53 rfl rfl (Nat.le_of_ble_eq_true rfl) ?_;intro Γ C WK LP fin h0 hW hC hB hR hLP hfin
  (try (conv=>whnf));(repeat ((first|refine qT ?_|refine qF ?_|refine qO ?_|(with_reducible intro z hz);(first|(replace hz:=hz (by omega);subst hz)|subst hz));(try (conv=>whnf))))
  exact hfin _ (aA.refl _)
 by_cases c3:x.new.length≤300
 case neg=>
  have hf:fu x=false:=by rw[hfe,show dQ x=false by unfold dQ;rw[decide_eq_false (by intro h;exact c3 (by omega))];rfl];rfl
  rw[hf]
  clear hFw
  refine PC.aj (T:=tb0) ay aH rfl mixed Tryz.func53 rfl rfl (Nat.le_of_ble_eq_true rfl) ?_;intro Γ C WK LP fin h0 hW hC hB hR hLP hfin
  (try (conv=>whnf));(repeat ((first|refine qT ?_|refine qF ?_|refine qO ?_|(with_reducible intro z hz);(first|(replace hz:=hz (by omega);subst hz)|subst hz));(try (conv=>whnf))))
  exact hfin _ (aA.refl _)
 by_cases c4:x.lb.size≤100
 case neg=>
  have hf:fu x=false:=by rw[hfe,show dQ x=false by unfold dQ;rw[decide_eq_false (by intro h;exact c4 (by omega))];rfl];rfl
  rw[hf]
  clear hFw
  refine PC.aj (T:=tb0) ay aH rfl mixed Tryz.func53 rfl rfl (Nat.le_of_ble_eq_true rfl) ?_;intro Γ C WK LP fin h0 hW hC hB hR hLP hfin
  (try (conv=>whnf));(repeat ((first|refine qT ?_|refine qF ?_|refine qO ?_|(with_reducible intro z hz);(first|(replace hz:=hz (by omega);subst hz)|subst hz));(try (conv=>whnf))))
  exact hfin _ (aA.refl _)
 by_cases c5:x.fr.size≤100
 case neg=>
  have hf:fu x=false:=by rw[hfe,show dQ x=false by unfold dQ;rw[decide_eq_false (by intro h;exact c5 (by omega))];rfl];rfl
  rw[hf]
  clear hFw
  refine PC.aj (T:=tb0) ay aH rfl mixed Tryz.func53 rfl rfl (Nat.le_of_ble_eq_true rfl) ?_;intro Γ C WK LP fin h0 hW hC hB hR hLP hfin
  (try (conv=>whnf));(repeat ((first|refine qT ?_|refine qF ?_|refine qO ?_|(with_reducible intro z hz);(first|(replace hz:=hz (by omega);subst hz)|subst hz));(try (conv=>whnf))))
  exact hfin _ (aA.refl _)
 by_cases c6:x.se.size≤100
 case neg=>
  have hf:fu x=false:=by rw[hfe,show dQ x=false by unfold dQ;rw[decide_eq_false (by intro h;exact c6 (by omega))];rfl];rfl
  rw[hf]
  clear hFw
  refine PC.aj (T:=tb0) ay aH rfl mixed Tryz.func53 rfl rfl (Nat.le_of_ble_eq_true rfl) ?_;intro Γ C WK LP fin h0 hW hC hB hR hLP hfin
  (try (conv=>whnf));(repeat ((first|refine qT ?_|refine qF ?_|refine qO ?_|(with_reducible intro z hz);(first|(replace hz:=hz (by omega);subst hz)|subst hz));(try (conv=>whnf))))
  exact hfin _ (aA.refl _)
 by_cases c7:x.ev.size≤100
 case neg=>
  have hf:fu x=false:=by rw[hfe,show dQ x=false by unfold dQ;rw[decide_eq_false (by intro h;exact c7 (by omega))];rfl];rfl
  rw[hf]
  clear hFw
  refine PC.aj (T:=tb0) ay aH rfl mixed Tryz.func53 rfl rfl (Nat.le_of_ble_eq_true rfl) ?_;intro Γ C WK LP fin h0 hW hC hB hR hLP hfin
  (try (conv=>whnf));(repeat ((first|refine qT ?_|refine qF ?_|refine qO ?_|(with_reducible intro z hz);(first|(replace hz:=hz (by omega);subst hz)|subst hz));(try (conv=>whnf))))
  exact hfin _ (aA.refl _)
 by_cases c8:x.bys.length≤2
 case neg=>
  have hf:fu x=false:=by rw[hfe,show dQ x=false by unfold dQ;rw[decide_eq_false (by intro h;exact c8 (by omega))];rfl];rfl
  rw[hf]
  clear hFw
  refine PC.aj (T:=tb0) ay aH rfl mixed Tryz.func53 rfl rfl (Nat.le_of_ble_eq_true rfl) ?_;intro Γ C WK LP fin h0 hW hC hB hR hLP hfin
  (try (conv=>whnf));(repeat ((first|refine qT ?_|refine qF ?_|refine qO ?_|(with_reducible intro z hz);(first|(replace hz:=hz (by omega);subst hz)|subst hz));(try (conv=>whnf))))
  exact hfin _ (aA.refl _)
 cases hwb:Gi x.unit 30
 case false=>
  have hf:fu x=false:=by rw[hfe,show dQ x=false by unfold dQ;rw[hwb,Bool.and_false]];rfl
  rw[hf]
  rw[hwb]at hFw
  refine PC.aj (T:=tb0) ay aH rfl mixed Tryz.func53 rfl rfl (Nat.le_of_ble_eq_true rfl) ?_;intro Γ C WK LP fin h0 hW hC hB hR hLP hfin
  (try (conv=>whnf));(repeat ((first|refine qT ?_|refine qF ?_|refine qO ?_|(with_reducible intro z hz);(first|(replace hz:=hz (by omega);subst hz)|subst hz)|(refine ah.mk _ (hC _ _ _ (PCw.of hFw)) (fun js hjs=>?_);subst hjs));(try (conv=>whnf))))
  exact hfin _ (aA.refl _)
 rw[hwb]at hFw
 have hhd:dQ x=true:=by unfold dQ;rw[hwb,Bool.and_true,decide_eq_true];exact⟨c0,c1,c2,c3,c4,c5,c6,c7,c8⟩
 rw[hhd,Bool.true_and]at hfe
 refine PC.aj (T:=tb0) ay aH rfl mixed Tryz.func53 rfl rfl (Nat.le_of_ble_eq_true rfl) ?_;intro Γ C WK LP fin h0 hW hC hB hR hLP hfin
 (try (conv=>whnf));(repeat ((first|refine qT ?_|refine qF ?_|refine qO ?_|(with_reducible intro z hz);(first|(replace hz:=hz (by omega);subst hz)|subst hz)|(refine ah.mk _ (hC _ _ _ (PCw.of hFw)) (fun js hjs=>?_);subst hjs));(try (conv=>whnf))))
 refine hLP _ _ _ Nat (fun k=>⟨[(1,.ptr 0 1 0),(3,.imm (.int .i64 (k:Nat)))],[.box 1 [.imm (.int .i64 x.kind),.imm (.sl 2 (x.p.map spv)),.imm (.sl 2 (x.q.map spv)),.imm (.int .i64 x.z),.imm (.int .i64 x.nth),.imm (.int .i64 x.unit.id.x),.imm (.int .i64 x.unit.id.y),.imm (.int .i64 x.unit.id.z),.imm (.int .i64 x.unit.kind),.imm (.str x.unit.label),.imm (.sl 4 (x.unit.head.map wdv)),.imm (.sl 4 (x.unit.words.map wdv)),.imm (.sl 8 (x.unit.kids.map uv)),.imm (.sl 1 (x.old.map IV.str)),.imm (.sl 1 (x.new.map IV.str)),.imm (.str x.lb),.imm (.str x.fr),.imm (.int .i64 x.sk),.imm (.int .i64 x.sd),.imm (.str x.se),.imm (.int .i64 x.a),.imm (.int .i64 x.i),.imm (.int .i64 x.d),.imm (.str x.ev),.imm (.sl 25 (x.bys.map itv))]]⟩) (fun k=>k≤x.old.length∧(x.old.take k).all o9=true) (fun k=>x.old.length - k) 0 ⟨Nat.zero_le _,rfl⟩ (qSL 1 rfl rfl) ?_
 rintro k ⟨hk,hpre⟩
 have hho:=Nat.lt_or_ge k x.old.length
 cases hho with
 |inl hlt=>
  obtain⟨y,hy⟩:∃y,x.old[k]?=some y:=⟨x.old[k],List.getElem?_eq_getElem hlt⟩
  by_cases hs:y.size≤100
  ·(try (conv=>whnf));(repeat ((first|refine qT ?_|refine qF ?_|refine qO ?_|(with_reducible intro z hz);(first|(replace hz:=hz (by omega);subst hz)|subst hz));(try (conv=>whnf))))
   refine Idx.mk k (IV.str y) _ rfl (by simp[hy]) rfl ?_
   (try (conv=>whnf));(repeat ((first|refine qT ?_|refine qF ?_|refine qO ?_|(with_reducible intro z hz);(first|(replace hz:=hz (by omega);subst hz)|subst hz));(try (conv=>whnf))))
   exact⟨k+1,⟨by omega,gy hy hpre (by unfold o9;exact decide_eq_true hs)⟩,by dsimp only;omega,(qSL 1 rfl rfl)⟩
  ·have hno:x.old.all o9=false:=jA hy (by unfold o9;exact decide_eq_false hs)
   have hf:fu x=false:=by rw[hfe,hno,Bool.false_and]
   rw[hf]at hfin
   (try (conv=>whnf));(repeat ((first|refine qT ?_|refine qF ?_|refine qO ?_|(with_reducible intro z hz);(first|(replace hz:=hz (by omega);subst hz)|subst hz));(try (conv=>whnf))))
   refine Idx.mk k (IV.str y) _ rfl (by simp[hy]) rfl ?_
   (try (conv=>whnf));(repeat ((first|refine qT ?_|refine qF ?_|refine qO ?_|(with_reducible intro z hz);(first|(replace hz:=hz (by omega);subst hz)|subst hz));(try (conv=>whnf))))
   exact hfin _ (aA.refl _)
 |inr hge=>
  obtain rfl:k=x.old.length:=by omega
  rw[List.take_length]at hpre
  rw[hpre,Bool.true_and]at hfe
  clear hpre hge hk
  (try (conv=>whnf));(repeat ((first|refine qT ?_|refine qF ?_|refine qO ?_|(with_reducible intro z hz);(first|(replace hz:=hz (by omega);subst hz)|subst hz));(try (conv=>whnf))))
  refine hLP _ _ _ Nat (fun k=>⟨[(1,.ptr 0 1 0),(4,.imm (.int .i64 (k:Nat)))],[.box 1 [.imm (.int .i64 x.kind),.imm (.sl 2 (x.p.map spv)),.imm (.sl 2 (x.q.map spv)),.imm (.int .i64 x.z),.imm (.int .i64 x.nth),.imm (.int .i64 x.unit.id.x),.imm (.int .i64 x.unit.id.y),.imm (.int .i64 x.unit.id.z),.imm (.int .i64 x.unit.kind),.imm (.str x.unit.label),.imm (.sl 4 (x.unit.head.map wdv)),.imm (.sl 4 (x.unit.words.map wdv)),.imm (.sl 8 (x.unit.kids.map uv)),.imm (.sl 1 (x.old.map IV.str)),.imm (.sl 1 (x.new.map IV.str)),.imm (.str x.lb),.imm (.str x.fr),.imm (.int .i64 x.sk),.imm (.int .i64 x.sd),.imm (.str x.se),.imm (.int .i64 x.a),.imm (.int .i64 x.i),.imm (.int .i64 x.d),.imm (.str x.ev),.imm (.sl 25 (x.bys.map itv))]]⟩) (fun k=>k≤x.new.length∧(x.new.take k).all o9=true) (fun k=>x.new.length - k) 0 ⟨Nat.zero_le _,rfl⟩ (qSL 1 rfl rfl) ?_
  rintro k ⟨hk,hpre⟩
  have hho:=Nat.lt_or_ge k x.new.length
  cases hho with
  |inl hlt=>
   obtain⟨y,hy⟩:∃y,x.new[k]?=some y:=⟨x.new[k],List.getElem?_eq_getElem hlt⟩
   by_cases hs:y.size≤100
   ·(try (conv=>whnf));(repeat ((first|refine qT ?_|refine qF ?_|refine qO ?_|(with_reducible intro z hz);(first|(replace hz:=hz (by omega);subst hz)|subst hz));(try (conv=>whnf))))
    refine Idx.mk k (IV.str y) _ rfl (by simp[hy]) rfl ?_
    (try (conv=>whnf));(repeat ((first|refine qT ?_|refine qF ?_|refine qO ?_|(with_reducible intro z hz);(first|(replace hz:=hz (by omega);subst hz)|subst hz));(try (conv=>whnf))))
    exact⟨k+1,⟨by omega,gy hy hpre (by unfold o9;exact decide_eq_true hs)⟩,by dsimp only;omega,(qSL 1 rfl rfl)⟩
   ·have hno:x.new.all o9=false:=jA hy (by unfold o9;exact decide_eq_false hs)
    have hf:fu x=false:=by rw[hfe,hno,Bool.false_and]
    rw[hf]at hfin
    (try (conv=>whnf));(repeat ((first|refine qT ?_|refine qF ?_|refine qO ?_|(with_reducible intro z hz);(first|(replace hz:=hz (by omega);subst hz)|subst hz));(try (conv=>whnf))))
    refine Idx.mk k (IV.str y) _ rfl (by simp[hy]) rfl ?_
    (try (conv=>whnf));(repeat ((first|refine qT ?_|refine qF ?_|refine qO ?_|(with_reducible intro z hz);(first|(replace hz:=hz (by omega);subst hz)|subst hz));(try (conv=>whnf))))
    exact hfin _ (aA.refl _)
  |inr hge=>
   obtain rfl:k=x.new.length:=by omega
   rw[List.take_length]at hpre
   rw[hpre,Bool.true_and]at hfe
   clear hpre hge hk
   (try (conv=>whnf));(repeat ((first|refine qT ?_|refine qF ?_|refine qO ?_|(with_reducible intro z hz);(first|(replace hz:=hz (by omega);subst hz)|subst hz));(try (conv=>whnf))))
   refine hLP _ _ _ Nat (fun k=>⟨[(1,.ptr 0 1 0),(5,.imm (.int .i64 (k:Nat)))],[.box 1 [.imm (.int .i64 x.kind),.imm (.sl 2 (x.p.map spv)),.imm (.sl 2 (x.q.map spv)),.imm (.int .i64 x.z),.imm (.int .i64 x.nth),.imm (.int .i64 x.unit.id.x),.imm (.int .i64 x.unit.id.y),.imm (.int .i64 x.unit.id.z),.imm (.int .i64 x.unit.kind),.imm (.str x.unit.label),.imm (.sl 4 (x.unit.head.map wdv)),.imm (.sl 4 (x.unit.words.map wdv)),.imm (.sl 8 (x.unit.kids.map uv)),.imm (.sl 1 (x.old.map IV.str)),.imm (.sl 1 (x.new.map IV.str)),.imm (.str x.lb),.imm (.str x.fr),.imm (.int .i64 x.sk),.imm (.int .i64 x.sd),.imm (.str x.se),.imm (.int .i64 x.a),.imm (.int .i64 x.i),.imm (.int .i64 x.d),.imm (.str x.ev),.imm (.sl 25 (x.bys.map itv))]]⟩) (fun k=>k≤x.p.length∧(x.p.take k).all uQ=true) (fun k=>x.p.length - k) 0 ⟨Nat.zero_le _,rfl⟩ (qSL 1 rfl rfl) ?_
   rintro k ⟨hk,hpre⟩
   have hho:=Nat.lt_or_ge k x.p.length
   cases hho with
   |inl hlt=>
    obtain⟨y,hy⟩:∃y,x.p[k]?=some y:=⟨x.p[k],List.getElem?_eq_getElem hlt⟩
    by_cases hs:y.label.size≤100
    ·(try (conv=>whnf));(repeat ((first|refine qT ?_|refine qF ?_|refine qO ?_|(with_reducible intro z hz);(first|(replace hz:=hz (by omega);subst hz)|subst hz));(try (conv=>whnf))))
     refine Idx.mk k (spv y) _ rfl (by simp[hy]) rfl ?_
     (try (conv=>whnf));(repeat ((first|refine qT ?_|refine qF ?_|refine qO ?_|(with_reducible intro z hz);(first|(replace hz:=hz (by omega);subst hz)|subst hz));(try (conv=>whnf))))
     exact⟨k+1,⟨by omega,gy hy hpre (by unfold uQ;exact decide_eq_true hs)⟩,by dsimp only;omega,(qSL 1 rfl rfl)⟩
    ·have hno:x.p.all uQ=false:=jA hy (by unfold uQ;exact decide_eq_false hs)
     have hf:fu x=false:=by rw[hfe,hno,Bool.false_and]
     rw[hf]at hfin
     (try (conv=>whnf));(repeat ((first|refine qT ?_|refine qF ?_|refine qO ?_|(with_reducible intro z hz);(first|(replace hz:=hz (by omega);subst hz)|subst hz));(try (conv=>whnf))))
     refine Idx.mk k (spv y) _ rfl (by simp[hy]) rfl ?_
     (try (conv=>whnf));(repeat ((first|refine qT ?_|refine qF ?_|refine qO ?_|(with_reducible intro z hz);(first|(replace hz:=hz (by omega);subst hz)|subst hz));(try (conv=>whnf))))
     exact hfin _ (aA.refl _)
   |inr hge=>
    obtain rfl:k=x.p.length:=by omega
    rw[List.take_length]at hpre
    rw[hpre,Bool.true_and]at hfe
    clear hpre hge hk
    (try (conv=>whnf));(repeat ((first|refine qT ?_|refine qF ?_|refine qO ?_|(with_reducible intro z hz);(first|(replace hz:=hz (by omega);subst hz)|subst hz));(try (conv=>whnf))))
    refine hLP _ _ _ Nat (fun k=>⟨[(1,.ptr 0 1 0),(6,.imm (.int .i64 (k:Nat)))],[.box 1 [.imm (.int .i64 x.kind),.imm (.sl 2 (x.p.map spv)),.imm (.sl 2 (x.q.map spv)),.imm (.int .i64 x.z),.imm (.int .i64 x.nth),.imm (.int .i64 x.unit.id.x),.imm (.int .i64 x.unit.id.y),.imm (.int .i64 x.unit.id.z),.imm (.int .i64 x.unit.kind),.imm (.str x.unit.label),.imm (.sl 4 (x.unit.head.map wdv)),.imm (.sl 4 (x.unit.words.map wdv)),.imm (.sl 8 (x.unit.kids.map uv)),.imm (.sl 1 (x.old.map IV.str)),.imm (.sl 1 (x.new.map IV.str)),.imm (.str x.lb),.imm (.str x.fr),.imm (.int .i64 x.sk),.imm (.int .i64 x.sd),.imm (.str x.se),.imm (.int .i64 x.a),.imm (.int .i64 x.i),.imm (.int .i64 x.d),.imm (.str x.ev),.imm (.sl 25 (x.bys.map itv))]]⟩) (fun k=>k≤x.q.length∧(x.q.take k).all uQ=true) (fun k=>x.q.length - k) 0 ⟨Nat.zero_le _,rfl⟩ (qSL 1 rfl rfl) ?_
    rintro k ⟨hk,hpre⟩
    have hho:=Nat.lt_or_ge k x.q.length
    cases hho with
    |inl hlt=>
     obtain⟨y,hy⟩:∃y,x.q[k]?=some y:=⟨x.q[k],List.getElem?_eq_getElem hlt⟩
     by_cases hs:y.label.size≤100
     ·(try (conv=>whnf));(repeat ((first|refine qT ?_|refine qF ?_|refine qO ?_|(with_reducible intro z hz);(first|(replace hz:=hz (by omega);subst hz)|subst hz));(try (conv=>whnf))))
      refine Idx.mk k (spv y) _ rfl (by simp[hy]) rfl ?_
      (try (conv=>whnf));(repeat ((first|refine qT ?_|refine qF ?_|refine qO ?_|(with_reducible intro z hz);(first|(replace hz:=hz (by omega);subst hz)|subst hz));(try (conv=>whnf))))
      exact⟨k+1,⟨by omega,gy hy hpre (by unfold uQ;exact decide_eq_true hs)⟩,by dsimp only;omega,(qSL 1 rfl rfl)⟩
     ·have hno:x.q.all uQ=false:=jA hy (by unfold uQ;exact decide_eq_false hs)
      have hf:fu x=false:=by rw[hfe,hno,Bool.false_and]
      rw[hf]at hfin
      (try (conv=>whnf));(repeat ((first|refine qT ?_|refine qF ?_|refine qO ?_|(with_reducible intro z hz);(first|(replace hz:=hz (by omega);subst hz)|subst hz));(try (conv=>whnf))))
      refine Idx.mk k (spv y) _ rfl (by simp[hy]) rfl ?_
      (try (conv=>whnf));(repeat ((first|refine qT ?_|refine qF ?_|refine qO ?_|(with_reducible intro z hz);(first|(replace hz:=hz (by omega);subst hz)|subst hz));(try (conv=>whnf))))
      exact hfin _ (aA.refl _)
    |inr hge=>
     obtain rfl:k=x.q.length:=by omega
     rw[List.take_length]at hpre
     rw[hpre,Bool.true_and]at hfe
     clear hpre hge hk
     (try (conv=>whnf));(repeat ((first|refine qT ?_|refine qF ?_|refine qO ?_|(with_reducible intro z hz);(first|(replace hz:=hz (by omega);subst hz)|subst hz));(try (conv=>whnf))))
     refine hLP _ _ _ Nat (fun k=>⟨[(1,.ptr 0 1 0),(7,.imm (.int .i64 (k:Nat)))],[.box 1 [.imm (.int .i64 x.kind),.imm (.sl 2 (x.p.map spv)),.imm (.sl 2 (x.q.map spv)),.imm (.int .i64 x.z),.imm (.int .i64 x.nth),.imm (.int .i64 x.unit.id.x),.imm (.int .i64 x.unit.id.y),.imm (.int .i64 x.unit.id.z),.imm (.int .i64 x.unit.kind),.imm (.str x.unit.label),.imm (.sl 4 (x.unit.head.map wdv)),.imm (.sl 4 (x.unit.words.map wdv)),.imm (.sl 8 (x.unit.kids.map uv)),.imm (.sl 1 (x.old.map IV.str)),.imm (.sl 1 (x.new.map IV.str)),.imm (.str x.lb),.imm (.str x.fr),.imm (.int .i64 x.sk),.imm (.int .i64 x.sd),.imm (.str x.se),.imm (.int .i64 x.a),.imm (.int .i64 x.i),.imm (.int .i64 x.d),.imm (.str x.ev),.imm (.sl 25 (x.bys.map itv))]]⟩) (fun k=>k≤x.bys.length∧iP (x.bys.take k)=true) (fun k=>x.bys.length - k) 0 ⟨Nat.zero_le _,rfl⟩ (qSL 1 rfl rfl) ?_
     rintro k ⟨hk,hpre⟩
     have hho:=Nat.lt_or_ge k x.bys.length
     cases hho with
     |inl hlt=>
      obtain⟨y,hy⟩:∃y,x.bys[k]?=some y:=⟨x.bys[k],List.getElem?_eq_getElem hlt⟩
      have hI:=ih y (List.mem_of_getElem? hy)
      have hyv:=aR y
      have hfy:=hb y (List.mem_of_getElem? hy)
      have hyl:y.bys.length≤maxLen:=by cases hfy with|mk _ _ h1 _=>exact h1.2.2.2.2
      unfold maxLen at hyl
      have hym:(y.bys.map itv).length=y.bys.length:=List.length_map _
      rw[hyv]at hI
      by_cases hye:y.bys=[]
      ·have hflat:tT y=true:=by unfold tT;rw[hye]
       have hyz:y.bys.length=0:=by rw[hye];rfl
       cases hfy':fu y
       ·have hno:=wE hy (by rw[hfy',Bool.and_false])
        have hf:fu x=false:=by rw[hfe,hno]
        rw[hf]at hfin
        rw[hfy']at hI
        (try (conv=>whnf));(repeat ((first|refine qT ?_|refine qF ?_|refine qO ?_|(with_reducible intro z hz);(first|(replace hz:=hz (by omega);subst hz)|subst hz));(try (conv=>whnf))))
        refine Idx.mk k (itv y) _ rfl (by simp[hy]) (by rw[hyv];try rfl) ?_
        (try (conv=>whnf));(repeat ((first|refine qT ?_|refine qF ?_|refine qO ?_|(with_reducible intro z hz);(first|(replace hz:=hz (by omega);subst hz)|subst hz));(try (conv=>whnf))))
        refine Idx.mk k (itv y) _ rfl (by simp[hy]) (by rw[hyv];try rfl) ?_
        (try (conv=>whnf));(repeat ((first|refine qT ?_|refine qF ?_|refine qO ?_|(with_reducible intro z hz);(first|(replace hz:=hz (by omega);subst hz)|subst hz)|(refine ah.mk _ (hC _ _ _ (PCw.of hI)) (fun js hjs=>?_);subst hjs));(try (conv=>whnf))))
        exact hfin _ (aA.refl _)
       ·rw[hfy']at hI
        (try (conv=>whnf));(repeat ((first|refine qT ?_|refine qF ?_|refine qO ?_|(with_reducible intro z hz);(first|(replace hz:=hz (by omega);subst hz)|subst hz));(try (conv=>whnf))))
        refine Idx.mk k (itv y) _ rfl (by simp[hy]) (by rw[hyv];try rfl) ?_
        (try (conv=>whnf));(repeat ((first|refine qT ?_|refine qF ?_|refine qO ?_|(with_reducible intro z hz);(first|(replace hz:=hz (by omega);subst hz)|subst hz));(try (conv=>whnf))))
        refine Idx.mk k (itv y) _ rfl (by simp[hy]) (by rw[hyv];try rfl) ?_
        (try (conv=>whnf));(repeat ((first|refine qT ?_|refine qF ?_|refine qO ?_|(with_reducible intro z hz);(first|(replace hz:=hz (by omega);subst hz)|subst hz)|(refine ah.mk _ (hC _ _ _ (PCw.of hI)) (fun js hjs=>?_);subst hjs));(try (conv=>whnf))))
        exact⟨k+1,⟨by omega,by rw[take_at hy,oC,hpre];simp[iP,hfy',hflat]⟩,by dsimp only;omega,(qSL 1 rfl rfl)⟩
      ·obtain⟨g,r,hgr⟩:=List.exists_cons_of_ne_nil hye
       have hyz:0 < y.bys.length:=by rw[hgr];simp
       have hgv:=aR g
       have hgf:vR g:=by cases hfy with|mk _ _ _ hb'=>exact hb' g (by rw[hgr];exact List.mem_cons_self)
       have hgl:g.bys.length≤maxLen:=by cases hgf with|mk _ _ h1 _=>exact h1.2.2.2.2
       unfold maxLen at hgl
       have hgm:(g.bys.map itv).length=g.bys.length:=List.length_map _
       have hg0:(y.bys.map itv)[0]?=some (itv g):=by rw[hgr];rfl
       by_cases hge:g.bys=[]
       ·have hflat:tT y=true:=by unfold tT;rw[hgr];simp[hge]
        have hgz:g.bys.length=0:=by rw[hge];rfl
        cases hfy':fu y
        ·have hno:=wE hy (by rw[hfy',Bool.and_false])
         have hf:fu x=false:=by rw[hfe,hno]
         rw[hf]at hfin
         rw[hfy']at hI
         (try (conv=>whnf));(repeat ((first|refine qT ?_|refine qF ?_|refine qO ?_|(with_reducible intro z hz);(first|(replace hz:=hz (by omega);subst hz)|subst hz));(try (conv=>whnf))))
         refine Idx.mk k (itv y) _ rfl (by simp[hy]) (by rw[hyv];try rfl) ?_
         (try (conv=>whnf));(repeat ((first|refine qT ?_|refine qF ?_|refine qO ?_|(with_reducible intro z hz);(first|(replace hz:=hz (by omega);subst hz)|subst hz));(try (conv=>whnf))))
         refine Idx.mk k (itv y) _ rfl (by simp[hy]) (by rw[hyv];try rfl) ?_
         (try (conv=>whnf));(repeat ((first|refine qT ?_|refine qF ?_|refine qO ?_|(with_reducible intro z hz);(first|(replace hz:=hz (by omega);subst hz)|subst hz));(try (conv=>whnf))))
         refine Idx.mk 0 (itv g) _ rfl hg0 (by rw[hgv];try rfl) ?_
         (try (conv=>whnf));(repeat ((first|refine qT ?_|refine qF ?_|refine qO ?_|(with_reducible intro z hz);(first|(replace hz:=hz (by omega);subst hz)|subst hz));(try (conv=>whnf))))
         refine Idx.mk k (itv y) _ rfl (by simp[hy]) (by rw[hyv];try rfl) ?_
         (try (conv=>whnf));(repeat ((first|refine qT ?_|refine qF ?_|refine qO ?_|(with_reducible intro z hz);(first|(replace hz:=hz (by omega);subst hz)|subst hz)|(refine ah.mk _ (hC _ _ _ (PCw.of hI)) (fun js hjs=>?_);subst hjs));(try (conv=>whnf))))
         exact hfin _ (aA.refl _)
        ·rw[hfy']at hI
         (try (conv=>whnf));(repeat ((first|refine qT ?_|refine qF ?_|refine qO ?_|(with_reducible intro z hz);(first|(replace hz:=hz (by omega);subst hz)|subst hz));(try (conv=>whnf))))
         refine Idx.mk k (itv y) _ rfl (by simp[hy]) (by rw[hyv];try rfl) ?_
         (try (conv=>whnf));(repeat ((first|refine qT ?_|refine qF ?_|refine qO ?_|(with_reducible intro z hz);(first|(replace hz:=hz (by omega);subst hz)|subst hz));(try (conv=>whnf))))
         refine Idx.mk k (itv y) _ rfl (by simp[hy]) (by rw[hyv];try rfl) ?_
         (try (conv=>whnf));(repeat ((first|refine qT ?_|refine qF ?_|refine qO ?_|(with_reducible intro z hz);(first|(replace hz:=hz (by omega);subst hz)|subst hz));(try (conv=>whnf))))
         refine Idx.mk 0 (itv g) _ rfl hg0 (by rw[hgv];try rfl) ?_
         (try (conv=>whnf));(repeat ((first|refine qT ?_|refine qF ?_|refine qO ?_|(with_reducible intro z hz);(first|(replace hz:=hz (by omega);subst hz)|subst hz));(try (conv=>whnf))))
         refine Idx.mk k (itv y) _ rfl (by simp[hy]) (by rw[hyv];try rfl) ?_
         (try (conv=>whnf));(repeat ((first|refine qT ?_|refine qF ?_|refine qO ?_|(with_reducible intro z hz);(first|(replace hz:=hz (by omega);subst hz)|subst hz)|(refine ah.mk _ (hC _ _ _ (PCw.of hI)) (fun js hjs=>?_);subst hjs));(try (conv=>whnf))))
         exact⟨k+1,⟨by omega,by rw[take_at hy,oC,hpre];simp[iP,hfy',hflat]⟩,by dsimp only;omega,(qSL 1 rfl rfl)⟩
       ·have hflat:tT y=false:=by
         unfold tT
         rw[hgr]
         show g.bys.isEmpty=false
         cases hgb:g.bys with
         |nil=>exact absurd hgb hge
         |cons _ _=>rfl
        have hgz:0 < g.bys.length:=List.length_pos_iff.2 hge
        have hno:=wE hy (by rw[hflat,Bool.false_and])
        have hf:fu x=false:=by rw[hfe,hno]
        rw[hf]at hfin
        (try (conv=>whnf));(repeat ((first|refine qT ?_|refine qF ?_|refine qO ?_|(with_reducible intro z hz);(first|(replace hz:=hz (by omega);subst hz)|subst hz));(try (conv=>whnf))))
        refine Idx.mk k (itv y) _ rfl (by simp[hy]) (by rw[hyv];try rfl) ?_
        (try (conv=>whnf));(repeat ((first|refine qT ?_|refine qF ?_|refine qO ?_|(with_reducible intro z hz);(first|(replace hz:=hz (by omega);subst hz)|subst hz));(try (conv=>whnf))))
        refine Idx.mk k (itv y) _ rfl (by simp[hy]) (by rw[hyv];try rfl) ?_
        (try (conv=>whnf));(repeat ((first|refine qT ?_|refine qF ?_|refine qO ?_|(with_reducible intro z hz);(first|(replace hz:=hz (by omega);subst hz)|subst hz));(try (conv=>whnf))))
        refine Idx.mk 0 (itv g) _ rfl hg0 (by rw[hgv];try rfl) ?_
        (try (conv=>whnf));(repeat ((first|refine qT ?_|refine qF ?_|refine qO ?_|(with_reducible intro z hz);(first|(replace hz:=hz (by omega);subst hz)|subst hz));(try (conv=>whnf))))
        exact hfin _ (aA.refl _)
     |inr hge=>
      obtain rfl:k=x.bys.length:=by omega
      rw[List.take_length]at hpre
      rw[hpre]at hfe
      rw[hfe]at hfin
      (try (conv=>whnf));(repeat ((first|refine qT ?_|refine qF ?_|refine qO ?_|(with_reducible intro z hz);(first|(replace hz:=hz (by omega);subst hz)|subst hz));(try (conv=>whnf))))
      exact hfin _ (aA.refl _)
end Go.Proofs.YtfjibfdelbodjaaGreat.Po
