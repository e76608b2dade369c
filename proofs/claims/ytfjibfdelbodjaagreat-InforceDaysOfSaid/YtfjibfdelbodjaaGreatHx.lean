/-
  The reference's Few, for trees. The reference's Few, for instructions.
-/
import Derived.Test.YtfjibfdelbodjaaGreatHw
namespace Go.Proofs.YtfjibfdelbodjaaGreat.Po
open Go Go.Pv Go.RowKit
set_option linter.unusedSimpArgs false
open Lab Lcs Go.Proofs.YtfjibfdelbodjaaGreat Go.Proofs.YtfjibfdelbodjaaGreat.Pu
set_option maxRecDepth 10000
set_option maxHeartbeats 32000000
def pK (s:Str):Bool:=decide (s.size≤100)
def kM (w:List Wd):Bool:=w.all (fun x=>pK x.text)&&decide (w.length≤300)
theorem gK {α:Type} {f:α→Bool} {l:List α} {k:Nat} {x:α} (hx:l[k]?=some x) (h:(l.take k).all f=true) (hf:f x=true):(l.take (k+1)).all f=true:=by
 rw[take_at hx,List.all_append,h]
 simp[hf]
theorem jR {α:Type} {f:α→Bool} {l:List α} {k:Nat} {x:α} (hx:l[k]?=some x) (hf:f x=false):l.all f=false:=by
 rw[List.all_eq_false]
 exact⟨x,List.mem_of_getElem? hx,by rw[hf];decide⟩
def Fits (u:Ut):Prop:=∀x∈u.all,x.head.length≤maxLen∧x.words.length≤maxLen∧x.kids.length≤maxLen
theorem Fits.self {u:Ut} (h:Fits u):u.head.length≤maxLen∧u.words.length≤maxLen∧u.kids.length≤maxLen:=h u (by rw[Ut.all_eq];exact List.mem_cons_self)
theorem M8 {u k:Ut} (hk:k∈u.kids):∀x∈k.all,x∈u.all:=by
 obtain⟨j,hj,rfl⟩:=List.getElem_of_mem hk
 cases u with
 |mk id kind label head words kids=>exact Qx (List.getElem?_eq_getElem hj)
theorem Fits.kid {u k:Ut} (h:Fits u) (hk:k∈u.kids):Fits k:=fun x hx=>h x (M8 hk x hx)
def uY (x:Ut):Bool:=decide (x.label.size≤30)&&kM x.head&&kM x.words
def Small (most:Nat) (u:Ut):Prop:=u.count≤most∧u.depth≤20∧u.all.all uY=true
mutual
def ko:Ut→Int→Int→Int
 |.mk _ _ _ _ _ kids,d,m=>if 20 < d then m+1 else jU kids d m 1
def jU:List Ut→Int→Int→Int→Int
 |[],_,_,n=>n
 |u::r,d,m,n=>if n≤m then jU r d m (n+ko u (d+1) (m - n)) else n
end
theorem NU (u:Ut) (d m:Int):ko u d m=if 20 < d then m+1 else jU u.kids d m 1:=by
 cases u;rw[ko];rfl
mutual
theorem sV:∀(u:Ut) (d m:Int),0≤m→1≤ko u d m∧ko u d m≤m+1
 |.mk _ _ _ _ _ kids,d,m,hm=>by
  rw[ko]
  split
  ·omega
  ·exact zq kids d m 1 (by omega) (by omega)
theorem zq:∀(l:List Ut) (d m n:Int),1≤n→n≤m+1→1≤jU l d m n∧jU l d m n≤m+1
 |[],_,_,n,h1,h2=>by rw[jU];omega
 |u::r,d,m,n,h1,h2=>by
  rw[jU]
  split
  ·have:=sV u (d+1) (m - n) (by omega)
   exact zq r d m _ (by omega) (by omega)
  ·omega
end
mutual
theorem zA:∀(u:Ut) (d m:Int),0≤m→ko u d m≤m→ko u d m=u.count∧d+u.depth≤20
 |.mk id kind label head words kids,d,m,hm,h=>by
  rw[ko]at h ⊢
  split at h
  ·omega
  ·rename_i hd
   rw[if_neg hd]
   have:=zy kids d m 1 (by omega) (by omega) h
   rw[count_mk,Qn]
   omega
theorem zy:∀(l:List Ut) (d m n:Int),1≤n→d≤20→jU l d m n≤m→jU l d m n=n+Ut.counts l∧d+Ut.depths l≤20
 |[],d,m,n,h1,h2,h=>by
  rw[jU]at h ⊢
  simp only[Ut.counts,Ut.depths]
  omega
 |u::r,d,m,n,h1,h2,h=>by
  rw[jU]at h ⊢
  split at h
  ·rename_i hn
   rw[if_pos hn]
   have hp:=sV u (d+1) (m - n) (by omega)
   have h3:=zy r d m (n+ko u (d+1) (m - n)) (by omega) h2 h
   have h4:=zA u (d+1) (m - n) (by omega) (by omega)
   simp only[Ut.counts,Ut.depths]
   omega
  ·omega
end
theorem QE (N:Nat):∀(u:Ut) (d m:Int),u.count≤N→0≤d→d≤21→0≤m→m≤1000→PC Tryz.prog aM 118 [uv u,.int .i64 d,.int .i64 m] [.int .i64 (ko u d m)]:=by
 induction N with
 |zero=>intro u d m h;have:=ou u;omega
 |succ N ih=>
 intro u d m hN h0 hd hm0 hm
 have hue:=gq u
 have hcu:=Ut.count_eq u
 have hkl:=j3 u.kids
 have hml:(u.kids.map uv).length=u.kids.length:=List.length_map _
 rw[NU,hue]
 by_cases hlt:20 < d
 ·rw[if_pos hlt]
  refine PC.ak (T:=tb0) aB aH rfl mixed Tryz.func118 rfl rfl (Nat.le_of_ble_eq_true rfl) ?_;intro Γ C WK LP fin h0 hW hC hB hR hLP hfin
  (try (conv=>whnf));(repeat ((first|refine qT ?_|refine qF ?_|refine qO ?_|(with_reducible intro z hz);(first|(replace hz:=hz (by omega);subst hz)|subst hz));(try (conv=>whnf))))
  exact hfin _ (ay.refl _)
 ·rw[if_neg hlt]
  refine PC.ak (T:=tb0) aB aH rfl mixed Tryz.func118 rfl rfl (Nat.le_of_ble_eq_true rfl) ?_;intro Γ C WK LP fin h0 hW hC hB hR hLP hfin
  (try (conv=>whnf));(repeat ((first|refine qT ?_|refine qF ?_|refine qO ?_|(with_reducible intro z hz);(first|(replace hz:=hz (by omega);subst hz)|subst hz));(try (conv=>whnf))))
  refine hLP _ _ _ (Nat×Int) (fun p=>⟨[(1,.imm (.int .i64 d)),(2,.imm (.int .i64 m)),(3,.ptr 0 1 0),(7,.imm (.int .i64 p.2)),(8,.imm (.int .i64 (p.1:Nat)))],[.box 1 [.imm (.int .i64 u.id.x),.imm (.int .i64 u.id.y),.imm (.int .i64 u.id.z),.imm (.int .i64 u.kind),.imm (.str u.label),.imm (.sl 4 (u.head.map wdv)),.imm (.sl 4 (u.words.map wdv)),.imm (.sl 8 (u.kids.map uv))]]⟩) (fun p=>p.1≤u.kids.length∧p.1+1≤p.2∧p.2≤m+1∧jU (u.kids.drop p.1) d m p.2=jU u.kids d m 1) (fun p=>u.kids.length - p.1) (0,1) ⟨Nat.zero_le _,by dsimp only;omega,by dsimp only;omega,rfl⟩ (qSL 1 rfl rfl) ?_
  rintro⟨k,n⟩ ⟨hk,hkn,hn,hinv⟩
  dsimp only at hk hkn hn hinv ⊢
  have hho:=Nat.lt_or_ge k u.kids.length
  cases hho with
  |inl hlt2=>
   obtain⟨x,hx⟩:∃x,u.kids[k]?=some x:=⟨u.kids[k],List.getElem?_eq_getElem hlt2⟩
   have hdrop:u.kids.drop k=x::u.kids.drop (k+1):=by
    rw[List.drop_eq_getElem_cons hlt2]
    congr 1
    exact (List.getElem?_eq_some_iff.1 hx).2
   rw[hdrop,jU]at hinv
   by_cases hnm:n≤m
   ·have hux:=gq x
    have hp:=sV x (d+1) (m - n) (by omega)
    have hkc:=BP hx
    have hI:=ih x (d+1) (m - n) (by omega) (by omega) (by omega) (by omega) (by omega)
    rw[if_pos hnm]at hinv
    generalize ko x (d+1) (m - n)=q at hI hp hinv
    rw[hux]at hI
    (try (conv=>whnf));(repeat ((first|refine qT ?_|refine qF ?_|refine qO ?_|(with_reducible intro z hz);(first|(replace hz:=hz (by omega);subst hz)|subst hz));(try (conv=>whnf))))
    refine Idx.mk k (uv x) _ rfl (by simp[hx]) (by rw[hux];try rfl) ?_
    (try (conv=>whnf));(repeat ((first|refine qT ?_|refine qF ?_|refine qO ?_|(with_reducible intro z hz);(first|(replace hz:=hz (by omega);subst hz)|subst hz)|(refine ah.mk _ (hC _ _ _ (PCw.of hI)) (fun js hjs=>?_);subst hjs));(try (conv=>whnf))))
    exact⟨(k+1,n+q),⟨by dsimp only;omega,by dsimp only;omega,by dsimp only;omega,hinv⟩,by dsimp only;omega,(qSL 1 rfl rfl)⟩
   ·rw[if_neg hnm]at hinv
    (try (conv=>whnf));(repeat ((first|refine qT ?_|refine qF ?_|refine qO ?_|(with_reducible intro z hz);(first|(replace hz:=hz (by omega);subst hz)|subst hz));(try (conv=>whnf))))
    refine hfin _ ?_
    rw[←hinv]
    exact ay.refl _
  |inr hge=>
   rw[List.drop_eq_nil_of_le hge,jU]at hinv
   (try (conv=>whnf));(repeat ((first|refine qT ?_|refine qF ?_|refine qO ?_|(with_reducible intro z hz);(first|(replace hz:=hz (by omega);subst hz)|subst hz));(try (conv=>whnf))))
   refine hfin _ ?_
   rw[←hinv]
   exact ay.refl _
theorem Am (l:List Wd) (hl:l.length≤9223372036854775807):PC Tryz.prog aM 147 [.sl 4 (l.map wdv)] [.bool (kM l)]:=by
 have h1:(l.map wdv).length=l.length:=List.length_map _
 refine PC.ak (T:=tb0) aB aH rfl mixed Tryz.func147 rfl rfl (Nat.le_of_ble_eq_true rfl) ?_;intro Γ C WK LP fin h0 hW hC hB hR hLP hfin
 (try (conv=>whnf));(repeat ((first|refine qT ?_|refine qF ?_|refine qO ?_|(with_reducible intro z hz);(first|(replace hz:=hz (by omega);subst hz)|subst hz));(try (conv=>whnf))))
 refine hLP _ _ _ Nat (fun k=>⟨[(0,.imm (.sl 4 (l.map wdv))),(3,.imm (.int .i64 (k:Nat)))],[]⟩) (fun k=>k≤l.length∧(l.take k).all (fun x=>pK x.text)=true) (fun k=>l.length - k) 0 ⟨Nat.zero_le _,rfl⟩ (qSL 0 rfl rfl) ?_
 rintro k ⟨hk,hpre⟩
 have hho:=Nat.lt_or_ge k l.length
 cases hho with
 |inl hlt=>
  obtain⟨y,hy⟩:∃y,l[k]?=some y:=⟨l[k],List.getElem?_eq_getElem hlt⟩
  by_cases hs:y.text.size≤100
  ·(try (conv=>whnf));(repeat ((first|refine qT ?_|refine qF ?_|refine qO ?_|(with_reducible intro z hz);(first|(replace hz:=hz (by omega);subst hz)|subst hz));(try (conv=>whnf))))
   refine Idx.mk k (wdv y) _ rfl (by simp[hy]) rfl ?_
   (try (conv=>whnf));(repeat ((first|refine qT ?_|refine qF ?_|refine qO ?_|(with_reducible intro z hz);(first|(replace hz:=hz (by omega);subst hz)|subst hz));(try (conv=>whnf))))
   exact⟨k+1,⟨by omega,gK hy hpre (by unfold pK;exact decide_eq_true hs)⟩,by dsimp only;omega,(qSL 0 rfl rfl)⟩
  ·rw[show kM l=false by unfold kM;rw[jR hy (by unfold pK;exact decide_eq_false hs)];rfl]at hfin
   (try (conv=>whnf));(repeat ((first|refine qT ?_|refine qF ?_|refine qO ?_|(with_reducible intro z hz);(first|(replace hz:=hz (by omega);subst hz)|subst hz));(try (conv=>whnf))))
   refine Idx.mk k (wdv y) _ rfl (by simp[hy]) rfl ?_
   (try (conv=>whnf));(repeat ((first|refine qT ?_|refine qF ?_|refine qO ?_|(with_reducible intro z hz);(first|(replace hz:=hz (by omega);subst hz)|subst hz));(try (conv=>whnf))))
   exact hfin _ (ay.refl _)
 |inr hge=>
  obtain rfl:k=l.length:=by omega
  rw[List.take_length]at hpre
  rw[show kM l=decide (l.length≤300) by unfold kM;rw[hpre];rfl]at hfin
  by_cases hc:l.length≤300
  ·rw[decide_eq_true hc]at hfin
   (try (conv=>whnf));(repeat ((first|refine qT ?_|refine qF ?_|refine qO ?_|(with_reducible intro z hz);(first|(replace hz:=hz (by omega);subst hz)|subst hz));(try (conv=>whnf))))
   exact hfin _ (ay.refl _)
  ·rw[decide_eq_false hc]at hfin
   (try (conv=>whnf));(repeat ((first|refine qT ?_|refine qF ?_|refine qO ?_|(with_reducible intro z hz);(first|(replace hz:=hz (by omega);subst hz)|subst hz));(try (conv=>whnf))))
   exact hfin _ (ay.refl _)
theorem all_cons (u:Ut) (p:Ut→Bool):u.all.all p=(p u&&(Ut.qR u.kids).all p):=by rw[Ut.all_eq,List.all_cons]
theorem x9 (p:Ut→Bool):∀l:List Ut,(Ut.qR l).all p=l.all fun x=>x.all.all p
 |[]=>rfl
 |x::r=>by unfold Ut.qR;rw[List.all_append,x9 p r,List.all_cons]
theorem MF (N:Nat):∀u:Ut,u.count≤N→Fits u→PC Tryz.prog aM 119 [uv u] [.bool (u.all.all uY)]:=by
 induction N with
 |zero=>intro u h;have:=ou u;omega
 |succ N ih=>
 intro u hN hf
 have hue:=gq u
 obtain⟨f1,f2,f3⟩:=hf.self
 have hH:=Am u.head (by unfold maxLen at f1;omega)
 have hWd:=Am u.words (by unfold maxLen at f2;omega)
 have hkl:(u.kids.map uv).length=u.kids.length:=List.length_map _
 rw[all_cons,x9]
 unfold maxLen at f3
 cases hb:uY u with
 |false=>
  rw[Bool.false_and,hue]
  unfold uY at hb
  by_cases hl:u.label.size≤30
  ·rw[decide_eq_true hl,Bool.true_and]at hb
   cases h1:kM u.head with
   |false=>
    rw[h1]at hH
    refine PC.ak (T:=tb0) aB aH rfl mixed Tryz.func119 rfl rfl (Nat.le_of_ble_eq_true rfl) ?_;intro Γ C WK LP fin h0 hW hC hB hR hLP hfin
    (try (conv=>whnf));(repeat ((first|refine qT ?_|refine qF ?_|refine qO ?_|(with_reducible intro z hz);(first|(replace hz:=hz (by omega);subst hz)|subst hz)|(refine ah.mk _ (hC _ _ _ (PCw.of hH)) (fun js hjs=>?_);subst hjs));(try (conv=>whnf))))
    exact hfin _ (ay.refl _)
   |true=>
    rw[h1,Bool.true_and]at hb
    rw[h1]at hH
    rw[hb]at hWd
    refine PC.ak (T:=tb0) aB aH rfl mixed Tryz.func119 rfl rfl (Nat.le_of_ble_eq_true rfl) ?_;intro Γ C WK LP fin h0 hW hC hB hR hLP hfin
    (try (conv=>whnf));(repeat ((first|refine qT ?_|refine qF ?_|refine qO ?_|(with_reducible intro z hz);(first|(replace hz:=hz (by omega);subst hz)|subst hz)|(refine ah.mk _ (hC _ _ _ (PCw.of hH)) (fun js hjs=>?_);subst hjs)|(refine ah.mk _ (hC _ _ _ (PCw.of hWd)) (fun js hjs=>?_);subst hjs));(try (conv=>whnf))))
    exact hfin _ (ay.refl _)
  ·refine PC.ak (T:=tb0) aB aH rfl mixed Tryz.func119 rfl rfl (Nat.le_of_ble_eq_true rfl) ?_;intro Γ C WK LP fin h0 hW hC hB hR hLP hfin
   (try (conv=>whnf));(repeat ((first|refine qT ?_|refine qF ?_|refine qO ?_|(with_reducible intro z hz);(first|(replace hz:=hz (by omega);subst hz)|subst hz));(try (conv=>whnf))))
   exact hfin _ (ay.refl _)
 |true=>
  rw[Bool.true_and,hue]
  unfold uY at hb
  rw[Bool.and_eq_true,Bool.and_eq_true,decide_eq_true_eq]at hb
  obtain⟨⟨hl,h1⟩,h2⟩:=hb
  rw[h1]at hH
  rw[h2]at hWd
  refine PC.ak (T:=tb0) aB aH rfl mixed Tryz.func119 rfl rfl (Nat.le_of_ble_eq_true rfl) ?_;intro Γ C WK LP fin h0 hW hC hB hR hLP hfin
  (try (conv=>whnf));(repeat ((first|refine qT ?_|refine qF ?_|refine qO ?_|(with_reducible intro z hz);(first|(replace hz:=hz (by omega);subst hz)|subst hz)|(refine ah.mk _ (hC _ _ _ (PCw.of hH)) (fun js hjs=>?_);subst hjs)|(refine ah.mk _ (hC _ _ _ (PCw.of hWd)) (fun js hjs=>?_);subst hjs));(try (conv=>whnf))))
  refine hLP _ _ _ Nat (fun k=>⟨[(1,.ptr 0 1 0),(3,.imm (.int .i64 (k:Nat)))],[.box 1 [.imm (.int .i64 u.id.x),.imm (.int .i64 u.id.y),.imm (.int .i64 u.id.z),.imm (.int .i64 u.kind),.imm (.str u.label),.imm (.sl 4 (u.head.map wdv)),.imm (.sl 4 (u.words.map wdv)),.imm (.sl 8 (u.kids.map uv))]]⟩) (fun k=>k≤u.kids.length∧(u.kids.take k).all (fun x=>x.all.all uY)=true) (fun k=>u.kids.length - k) 0 ⟨Nat.zero_le _,rfl⟩ (qSL 1 rfl rfl) ?_
  rintro k ⟨hk,hpre⟩
  have hho:=Nat.lt_or_ge k u.kids.length
  cases hho with
  |inl hlt=>
   obtain⟨x,hx⟩:∃x,u.kids[k]?=some x:=⟨u.kids[k],List.getElem?_eq_getElem hlt⟩
   have hc:=BP hx
   have hux:=gq x
   have hI:=ih x (by omega) (hf.kid (List.mem_of_getElem? hx))
   rw[hux]at hI
   cases hb:x.all.all uY with
   |true=>
    rw[hb]at hI
    (try (conv=>whnf));(repeat ((first|refine qT ?_|refine qF ?_|refine qO ?_|(with_reducible intro z hz);(first|(replace hz:=hz (by omega);subst hz)|subst hz));(try (conv=>whnf))))
    refine Idx.mk k (uv x) _ rfl (by simp[hx]) (by rw[hux];try rfl) ?_
    (try (conv=>whnf));(repeat ((first|refine qT ?_|refine qF ?_|refine qO ?_|(with_reducible intro z hz);(first|(replace hz:=hz (by omega);subst hz)|subst hz)|(refine ah.mk _ (hC _ _ _ (PCw.of hI)) (fun js hjs=>?_);subst hjs));(try (conv=>whnf))))
    exact⟨k+1,⟨by omega,gK hx hpre hb⟩,by dsimp only;omega,(qSL 1 rfl rfl)⟩
   |false=>
    rw[hb]at hI
    rw[show (u.kids.all fun x=>x.all.all uY)=false from jR hx hb]at hfin
    (try (conv=>whnf));(repeat ((first|refine qT ?_|refine qF ?_|refine qO ?_|(with_reducible intro z hz);(first|(replace hz:=hz (by omega);subst hz)|subst hz));(try (conv=>whnf))))
    refine Idx.mk k (uv x) _ rfl (by simp[hx]) (by rw[hux];try rfl) ?_
    (try (conv=>whnf));(repeat ((first|refine qT ?_|refine qF ?_|refine qO ?_|(with_reducible intro z hz);(first|(replace hz:=hz (by omega);subst hz)|subst hz)|(refine ah.mk _ (hC _ _ _ (PCw.of hI)) (fun js hjs=>?_);subst hjs));(try (conv=>whnf))))
    exact hfin _ (ay.refl _)
  |inr hge=>
   obtain rfl:k=u.kids.length:=by omega
   rw[List.take_length]at hpre
   rw[hpre]at hfin
   (try (conv=>whnf));(repeat ((first|refine qT ?_|refine qF ?_|refine qO ?_|(with_reducible intro z hz);(first|(replace hz:=hz (by omega);subst hz)|subst hz));(try (conv=>whnf))))
   exact hfin _ (ay.refl _)
def Hr (u:Ut) (m:Int):Bool:=decide (ko u 0 m≤m)&&u.all.all uY
theorem Lc {u:Ut} {m:Nat} (h:Hr u m=true):Small m u:=by
 unfold Hr at h
 simp only[Bool.and_eq_true,decide_eq_true_eq]at h
 obtain⟨h1,h2⟩:=h
 obtain⟨h3,h4⟩:=zA u 0 m (by omega) h1
 exact⟨by omega,by omega,h2⟩
theorem Qq (u:Ut) (m:Int) (hf:Fits u) (h0:0≤m) (hm:m≤1000):PC Tryz.prog aM 75 [uv u,.int .i64 m] [.bool (Hr u m)]:=by
 have hS:=QE u.count u 0 m (Nat.le_refl _) (by omega) (by omega) h0 hm
 have hWo:=MF u.count u (Nat.le_refl _) hf
 have hue:=gq u
 unfold Hr
 rw[hue]at hS hWo ⊢
 generalize u.all.all uY=b at hWo ⊢
 generalize ko u 0 m=q at hS ⊢
 by_cases hz:q≤m
 ·rw[decide_eq_true hz,Bool.true_and]
  refine PC.ak (T:=tb0) aB aH rfl mixed Tryz.func75 rfl rfl (Nat.le_of_ble_eq_true rfl) ?_;intro Γ C WK LP fin h0 hW hC hB hR hLP hfin
  (try (conv=>whnf));(repeat ((first|refine qT ?_|refine qF ?_|refine qO ?_|(with_reducible intro z hz);(first|(replace hz:=hz (by omega);subst hz)|subst hz)|(refine ah.mk _ (hC _ _ _ (PCw.of hS)) (fun js hjs=>?_);subst hjs)|(refine ah.mk _ (hC _ _ _ (PCw.of hWo)) (fun js hjs=>?_);subst hjs));(try (conv=>whnf))))
  exact hfin _ (ay.refl _)
 ·rw[decide_eq_false hz,Bool.false_and]
  refine PC.ak (T:=tb0) aB aH rfl mixed Tryz.func75 rfl rfl (Nat.le_of_ble_eq_true rfl) ?_;intro Γ C WK LP fin h0 hW hC hB hR hLP hfin
  (try (conv=>whnf));(repeat ((first|refine qT ?_|refine qF ?_|refine qO ?_|(with_reducible intro z hz);(first|(replace hz:=hz (by omega);subst hz)|subst hz)|(refine ah.mk _ (hC _ _ _ (PCw.of hS)) (fun js hjs=>?_);subst hjs));(try (conv=>whnf))))
  exact hfin _ (ay.refl _)
end Go.Proofs.YtfjibfdelbodjaaGreat.Po
namespace Go.Proofs.YtfjibfdelbodjaaGreat.Po
open Go Go.Pv Go.RowKit
set_option linter.unusedSimpArgs false
open Lab Lcs Go.Proofs.YtfjibfdelbodjaaGreat Go.Proofs.YtfjibfdelbodjaaGreat.Pu
set_option maxRecDepth 10000
set_option maxHeartbeats 32000000
def uS (s:Stp):Bool:=decide (s.label.size≤100)
def dY (x:It):Bool:=decide (x.p.length≤12∧x.q.length≤12∧x.old.length≤300∧x.new.length≤300∧x.lb.size≤100∧x.fr.size≤100∧x.se.size≤100∧x.ev.size≤100∧x.bys.length≤2)&&Hr x.unit 30
def uE (x:It):Bool:=match x.bys with
 |[]=>true
 |y::_=>y.bys.isEmpty
mutual
def fC:It→Bool
 |.mk kind p q z nth unit old new lb fr sk sd se a i d ev bys=>dY (.mk kind p q z nth unit old new lb fr sk sd se a i d ev bys)&&(old.all pK&&(new.all pK&&(p.all uS&&(q.all uS&&je bys))))
def je:List It→Bool
 |[]=>true
 |x::r=>uE x&&fC x&&je r
end
theorem Kg (x:It):fC x=(dY x&&(x.old.all pK&&(x.new.all pK&&(x.p.all uS&&(x.q.all uS&&je x.bys))))):=by cases x;rw[fC];rfl
theorem oP:∀a b:List It,je (a++b)=(je a&&je b)
 |[],b=>by simp[je]
 |x::a,b=>by simp[je,oP a b,Bool.and_assoc]
theorem wB {l:List It} {k:Nat} {x:It} (hx:l[k]?=some x) (h:(uE x&&fC x)=false):je l=false:=by
 obtain⟨hk,he⟩:=List.getElem?_eq_some_iff.1 hx
 have:l=l.take k++x::l.drop (k+1):=by rw[←he,←List.drop_eq_getElem_cons hk,List.take_append_drop]
 rw[this,oP,je,h]
 simp
inductive wU:It→Prop
 |mk (x:It) (hu:Fits x.unit) (h1:x.p.length≤maxLen∧x.q.length≤maxLen∧x.old.length≤maxLen∧x.new.length≤maxLen∧x.bys.length≤maxLen) (hb:∀y∈x.bys,wU y):wU x
theorem M5 (x:It) (hx0:wU x):PC Tryz.prog aM 53 [itv x] [.bool (fC x)]:=by
 induction hx0 with
 |mk x hu h1 hb ih=>
 obtain⟨hp,hq,ho,hn,hbl⟩:=h1
 unfold maxLen at hp hq ho hn hbl
 have hFw:=Qq x.unit 30 hu (by omega) (by omega)
 rw[gq x.unit]at hFw
 have hpm:(x.p.map spv).length=x.p.length:=List.length_map _
 have hqm:(x.q.map spv).length=x.q.length:=List.length_map _
 have hom:(x.old.map IV.str).length=x.old.length:=List.length_map _
 have hnm:(x.new.map IV.str).length=x.new.length:=List.length_map _
 have hbm:(x.bys.map itv).length=x.bys.length:=List.length_map _
 have hfe:=Kg x
 rw[aT x]
 by_cases c0:x.p.length≤12
 case neg=>
  have hf:fC x=false:=by rw[hfe,show dY x=false by unfold dY;rw[decide_eq_false (by intro h;exact c0 (by omega))];rfl];rfl
  rw[hf]
  clear hFw
  refine PC.ak (T:=tb0) aB aH rfl mixed Tryz.func53 rfl rfl (Nat.le_of_ble_eq_true rfl) ?_;intro Γ C WK LP fin h0 hW hC hB hR hLP hfin
  (try (conv=>whnf));(repeat ((first|refine qT ?_|refine qF ?_|refine qO ?_|(with_reducible intro z hz);(first|(replace hz:=hz (by omega);subst hz)|subst hz));(try (conv=>whnf))))
  exact hfin _ (ay.refl _)
 by_cases c1:x.q.length≤12
 case neg=>
  have hf:fC x=false:=by rw[hfe,show dY x=false by unfold dY;rw[decide_eq_false (by intro h;exact c1 (by omega))];rfl];rfl
  rw[hf]
  clear hFw
  refine PC.ak (T:=tb0) aB aH rfl mixed Tryz.func53 rfl rfl (Nat.le_of_ble_eq_true rfl) ?_;intro Γ C WK LP fin h0 hW hC hB hR hLP hfin
  (try (conv=>whnf));(repeat ((first|refine qT ?_|refine qF ?_|refine qO ?_|(with_reducible intro z hz);(first|(replace hz:=hz (by omega);subst hz)|subst hz));(try (conv=>whnf))))
  exact hfin _ (ay.refl _)
 by_cases c2:x.old.length≤300
 case neg=>
  have hf:fC x=false:=by rw[hfe,show dY x=false by unfold dY;rw[decide_eq_false (by intro h;exact c2 (by omega))];rfl];rfl
  rw[hf]
  clear hFw
  refine PC.ak (T:=tb0) aB aH rfl mixed Tryz.func53 rfl rfl (Nat.le_of_ble_eq_true rfl) ?_;intro Γ C WK LP fin h0 hW hC hB hR hLP hfin
  (try (conv=>whnf));(repeat ((first|refine qT ?_|refine qF ?_|refine qO ?_|(with_reducible intro z hz);(first|(replace hz:=hz (by omega);subst hz)|subst hz));(try (conv=>whnf))))
  exact hfin _ (ay.refl _)
 by_cases c3:x.new.length≤300
 case neg=>
  have hf:fC x=false:=by rw[hfe,show dY x=false by unfold dY;rw[decide_eq_false (by intro h;exact c3 (by omega))];rfl];rfl
  rw[hf]
  clear hFw
  refine PC.ak (T:=tb0) aB aH rfl mixed Tryz.func53 rfl rfl (Nat.le_of_ble_eq_true rfl) ?_;intro Γ C WK LP fin h0 hW hC hB hR hLP hfin
  (try (conv=>whnf));(repeat ((first|refine qT ?_|refine qF ?_|refine qO ?_|(with_reducible intro z hz);(first|(replace hz:=hz (by omega);subst hz)|subst hz));(try (conv=>whnf))))
  exact hfin _ (ay.refl _)
 by_cases c4:x.lb.size≤100
 case neg=>
  have hf:fC x=false:=by rw[hfe,show dY x=false by unfold dY;rw[decide_eq_false (by intro h;exact c4 (by omega))];rfl];rfl
  rw[hf]
  clear hFw
  refine PC.ak (T:=tb0) aB aH rfl mixed Tryz.func53 rfl rfl (Nat.le_of_ble_eq_true rfl) ?_;intro Γ C WK LP fin h0 hW hC hB hR hLP hfin
  (try (conv=>whnf));(repeat ((first|refine qT ?_|refine qF ?_|refine qO ?_|(with_reducible intro z hz);(first|(replace hz:=hz (by omega);subst hz)|subst hz));(try (conv=>whnf))))
  exact hfin _ (ay.refl _)
 by_cases c5:x.fr.size≤100
 case neg=>
  have hf:fC x=false:=by rw[hfe,show dY x=false by unfold dY;rw[decide_eq_false (by intro h;exact c5 (by omega))];rfl];rfl
  rw[hf]
  clear hFw
  refine PC.ak (T:=tb0) aB aH rfl mixed Tryz.func53 rfl rfl (Nat.le_of_ble_eq_true rfl) ?_;intro Γ C WK LP fin h0 hW hC hB hR hLP hfin
  (try (conv=>whnf));(repeat ((first|refine qT ?_|refine qF ?_|refine qO ?_|(with_reducible intro z hz);(first|(replace hz:=hz (by omega);subst hz)|subst hz));(try (conv=>whnf))))
  exact hfin _ (ay.refl _)
 by_cases c6:x.se.size≤100
 case neg=>
  have hf:fC x=false:=by rw[hfe,show dY x=false by unfold dY;rw[decide_eq_false (by intro h;exact c6 (by omega))];rfl];rfl
  rw[hf]
  clear hFw
  refine PC.ak (T:=tb0) aB aH rfl mixed Tryz.func53 rfl rfl (Nat.le_of_ble_eq_true rfl) ?_;intro Γ C WK LP fin h0 hW hC hB hR hLP hfin
  (try (conv=>whnf));(repeat ((first|refine qT ?_|refine qF ?_|refine qO ?_|(with_reducible intro z hz);(first|(replace hz:=hz (by omega);subst hz)|subst hz));(try (conv=>whnf))))
  exact hfin _ (ay.refl _)
 by_cases c7:x.ev.size≤100
 case neg=>
  have hf:fC x=false:=by rw[hfe,show dY x=false by unfold dY;rw[decide_eq_false (by intro h;exact c7 (by omega))];rfl];rfl
  rw[hf]
  clear hFw
  refine PC.ak (T:=tb0) aB aH rfl mixed Tryz.func53 rfl rfl (Nat.le_of_ble_eq_true rfl) ?_;intro Γ C WK LP fin h0 hW hC hB hR hLP hfin
  (try (conv=>whnf));(repeat ((first|refine qT ?_|refine qF ?_|refine qO ?_|(with_reducible intro z hz);(first|(replace hz:=hz (by omega);subst hz)|subst hz));(try (conv=>whnf))))
  exact hfin _ (ay.refl _)
 by_cases c8:x.bys.length≤2
 case neg=>
  have hf:fC x=false:=by rw[hfe,show dY x=false by unfold dY;rw[decide_eq_false (by intro h;exact c8 (by omega))];rfl];rfl
  rw[hf]
  clear hFw
  refine PC.ak (T:=tb0) aB aH rfl mixed Tryz.func53 rfl rfl (Nat.le_of_ble_eq_true rfl) ?_;intro Γ C WK LP fin h0 hW hC hB hR hLP hfin
  (try (conv=>whnf));(repeat ((first|refine qT ?_|refine qF ?_|refine qO ?_|(with_reducible intro z hz);(first|(replace hz:=hz (by omega);subst hz)|subst hz));(try (conv=>whnf))))
  exact hfin _ (ay.refl _)
 cases hwb:Hr x.unit 30
 case false=>
  have hf:fC x=false:=by rw[hfe,show dY x=false by unfold dY;rw[hwb,Bool.and_false]];rfl
  rw[hf]
  rw[hwb]at hFw
  refine PC.ak (T:=tb0) aB aH rfl mixed Tryz.func53 rfl rfl (Nat.le_of_ble_eq_true rfl) ?_;intro Γ C WK LP fin h0 hW hC hB hR hLP hfin
  (try (conv=>whnf));(repeat ((first|refine qT ?_|refine qF ?_|refine qO ?_|(with_reducible intro z hz);(first|(replace hz:=hz (by omega);subst hz)|subst hz)|(refine ah.mk _ (hC _ _ _ (PCw.of hFw)) (fun js hjs=>?_);subst hjs));(try (conv=>whnf))))
  exact hfin _ (ay.refl _)
 rw[hwb]at hFw
 have hhd:dY x=true:=by unfold dY;rw[hwb,Bool.and_true,decide_eq_true];exact⟨c0,c1,c2,c3,c4,c5,c6,c7,c8⟩
 rw[hhd,Bool.true_and]at hfe
 refine PC.ak (T:=tb0) aB aH rfl mixed Tryz.func53 rfl rfl (Nat.le_of_ble_eq_true rfl) ?_;intro Γ C WK LP fin h0 hW hC hB hR hLP hfin
 (try (conv=>whnf));(repeat ((first|refine qT ?_|refine qF ?_|refine qO ?_|(with_reducible intro z hz);(first|(replace hz:=hz (by omega);subst hz)|subst hz)|(refine ah.mk _ (hC _ _ _ (PCw.of hFw)) (fun js hjs=>?_);subst hjs));(try (conv=>whnf))))
 refine hLP _ _ _ Nat (fun k=>⟨[(1,.ptr 0 1 0),(3,.imm (.int .i64 (k:Nat)))],[.box 1 [.imm (.int .i64 x.kind),.imm (.sl 2 (x.p.map spv)),.imm (.sl 2 (x.q.map spv)),.imm (.int .i64 x.z),.imm (.int .i64 x.nth),.imm (.int .i64 x.unit.id.x),.imm (.int .i64 x.unit.id.y),.imm (.int .i64 x.unit.id.z),.imm (.int .i64 x.unit.kind),.imm (.str x.unit.label),.imm (.sl 4 (x.unit.head.map wdv)),.imm (.sl 4 (x.unit.words.map wdv)),.imm (.sl 8 (x.unit.kids.map uv)),.imm (.sl 1 (x.old.map IV.str)),.imm (.sl 1 (x.new.map IV.str)),.imm (.str x.lb),.imm (.str x.fr),.imm (.int .i64 x.sk),.imm (.int .i64 x.sd),.imm (.str x.se),.imm (.int .i64 x.a),.imm (.int .i64 x.i),.imm (.int .i64 x.d),.imm (.str x.ev),.imm (.sl 25 (x.bys.map itv))]]⟩) (fun k=>k≤x.old.length∧(x.old.take k).all pK=true) (fun k=>x.old.length - k) 0 ⟨Nat.zero_le _,rfl⟩ (qSL 1 rfl rfl) ?_
 rintro k ⟨hk,hpre⟩
 have hho:=Nat.lt_or_ge k x.old.length
 cases hho with
 |inl hlt=>
  obtain⟨y,hy⟩:∃y,x.old[k]?=some y:=⟨x.old[k],List.getElem?_eq_getElem hlt⟩
  by_cases hs:y.size≤100
  ·(try (conv=>whnf));(repeat ((first|refine qT ?_|refine qF ?_|refine qO ?_|(with_reducible intro z hz);(first|(replace hz:=hz (by omega);subst hz)|subst hz));(try (conv=>whnf))))
   refine Idx.mk k (IV.str y) _ rfl (by simp[hy]) rfl ?_
   (try (conv=>whnf));(repeat ((first|refine qT ?_|refine qF ?_|refine qO ?_|(with_reducible intro z hz);(first|(replace hz:=hz (by omega);subst hz)|subst hz));(try (conv=>whnf))))
   exact⟨k+1,⟨by omega,gK hy hpre (by unfold pK;exact decide_eq_true hs)⟩,by dsimp only;omega,(qSL 1 rfl rfl)⟩
  ·have hno:x.old.all pK=false:=jR hy (by unfold pK;exact decide_eq_false hs)
   have hf:fC x=false:=by rw[hfe,hno,Bool.false_and]
   rw[hf]at hfin
   (try (conv=>whnf));(repeat ((first|refine qT ?_|refine qF ?_|refine qO ?_|(with_reducible intro z hz);(first|(replace hz:=hz (by omega);subst hz)|subst hz));(try (conv=>whnf))))
   refine Idx.mk k (IV.str y) _ rfl (by simp[hy]) rfl ?_
   (try (conv=>whnf));(repeat ((first|refine qT ?_|refine qF ?_|refine qO ?_|(with_reducible intro z hz);(first|(replace hz:=hz (by omega);subst hz)|subst hz));(try (conv=>whnf))))
   exact hfin _ (ay.refl _)
 |inr hge=>
  obtain rfl:k=x.old.length:=by omega
  rw[List.take_length]at hpre
  rw[hpre,Bool.true_and]at hfe
  clear hpre hge hk
  (try (conv=>whnf));(repeat ((first|refine qT ?_|refine qF ?_|refine qO ?_|(with_reducible intro z hz);(first|(replace hz:=hz (by omega);subst hz)|subst hz));(try (conv=>whnf))))
  refine hLP _ _ _ Nat (fun k=>⟨[(1,.ptr 0 1 0),(4,.imm (.int .i64 (k:Nat)))],[.box 1 [.imm (.int .i64 x.kind),.imm (.sl 2 (x.p.map spv)),.imm (.sl 2 (x.q.map spv)),.imm (.int .i64 x.z),.imm (.int .i64 x.nth),.imm (.int .i64 x.unit.id.x),.imm (.int .i64 x.unit.id.y),.imm (.int .i64 x.unit.id.z),.imm (.int .i64 x.unit.kind),.imm (.str x.unit.label),.imm (.sl 4 (x.unit.head.map wdv)),.imm (.sl 4 (x.unit.words.map wdv)),.imm (.sl 8 (x.unit.kids.map uv)),.imm (.sl 1 (x.old.map IV.str)),.imm (.sl 1 (x.new.map IV.str)),.imm (.str x.lb),.imm (.str x.fr),.imm (.int .i64 x.sk),.imm (.int .i64 x.sd),.imm (.str x.se),.imm (.int .i64 x.a),.imm (.int .i64 x.i),.imm (.int .i64 x.d),.imm (.str x.ev),.imm (.sl 25 (x.bys.map itv))]]⟩) (fun k=>k≤x.new.length∧(x.new.take k).all pK=true) (fun k=>x.new.length - k) 0 ⟨Nat.zero_le _,rfl⟩ (qSL 1 rfl rfl) ?_
  rintro k ⟨hk,hpre⟩
  have hho:=Nat.lt_or_ge k x.new.length
  cases hho with
  |inl hlt=>
   obtain⟨y,hy⟩:∃y,x.new[k]?=some y:=⟨x.new[k],List.getElem?_eq_getElem hlt⟩
   by_cases hs:y.size≤100
   ·(try (conv=>whnf));(repeat ((first|refine qT ?_|refine qF ?_|refine qO ?_|(with_reducible intro z hz);(first|(replace hz:=hz (by omega);subst hz)|subst hz));(try (conv=>whnf))))
    refine Idx.mk k (IV.str y) _ rfl (by simp[hy]) rfl ?_
    (try (conv=>whnf));(repeat ((first|refine qT ?_|refine qF ?_|refine qO ?_|(with_reducible intro z hz);(first|(replace hz:=hz (by omega);subst hz)|subst hz));(try (conv=>whnf))))
    exact⟨k+1,⟨by omega,gK hy hpre (by unfold pK;exact decide_eq_true hs)⟩,by dsimp only;omega,(qSL 1 rfl rfl)⟩
   ·have hno:x.new.all pK=false:=jR hy (by unfold pK;exact decide_eq_false hs)
    have hf:fC x=false:=by rw[hfe,hno,Bool.false_and]
    rw[hf]at hfin
    (try (conv=>whnf));(repeat ((first|refine qT ?_|refine qF ?_|refine qO ?_|(with_reducible intro z hz);(first|(replace hz:=hz (by omega);subst hz)|subst hz));(try (conv=>whnf))))
    refine Idx.mk k (IV.str y) _ rfl (by simp[hy]) rfl ?_
    (try (conv=>whnf));(repeat ((first|refine qT ?_|refine qF ?_|refine qO ?_|(with_reducible intro z hz);(first|(replace hz:=hz (by omega);subst hz)|subst hz));(try (conv=>whnf))))
    exact hfin _ (ay.refl _)
  |inr hge=>
   obtain rfl:k=x.new.length:=by omega
   rw[List.take_length]at hpre
   rw[hpre,Bool.true_and]at hfe
   clear hpre hge hk
   (try (conv=>whnf));(repeat ((first|refine qT ?_|refine qF ?_|refine qO ?_|(with_reducible intro z hz);(first|(replace hz:=hz (by omega);subst hz)|subst hz));(try (conv=>whnf))))
   refine hLP _ _ _ Nat (fun k=>⟨[(1,.ptr 0 1 0),(5,.imm (.int .i64 (k:Nat)))],[.box 1 [.imm (.int .i64 x.kind),.imm (.sl 2 (x.p.map spv)),.imm (.sl 2 (x.q.map spv)),.imm (.int .i64 x.z),.imm (.int .i64 x.nth),.imm (.int .i64 x.unit.id.x),.imm (.int .i64 x.unit.id.y),.imm (.int .i64 x.unit.id.z),.imm (.int .i64 x.unit.kind),.imm (.str x.unit.label),.imm (.sl 4 (x.unit.head.map wdv)),.imm (.sl 4 (x.unit.words.map wdv)),.imm (.sl 8 (x.unit.kids.map uv)),.imm (.sl 1 (x.old.map IV.str)),.imm (.sl 1 (x.new.map IV.str)),.imm (.str x.lb),.imm (.str x.fr),.imm (.int .i64 x.sk),.imm (.int .i64 x.sd),.imm (.str x.se),.imm (.int .i64 x.a),.imm (.int .i64 x.i),.imm (.int .i64 x.d),.imm (.str x.ev),.imm (.sl 25 (x.bys.map itv))]]⟩) (fun k=>k≤x.p.length∧(x.p.take k).all uS=true) (fun k=>x.p.length - k) 0 ⟨Nat.zero_le _,rfl⟩ (qSL 1 rfl rfl) ?_
   rintro k ⟨hk,hpre⟩
   have hho:=Nat.lt_or_ge k x.p.length
   cases hho with
   |inl hlt=>
    obtain⟨y,hy⟩:∃y,x.p[k]?=some y:=⟨x.p[k],List.getElem?_eq_getElem hlt⟩
    by_cases hs:y.label.size≤100
    ·(try (conv=>whnf));(repeat ((first|refine qT ?_|refine qF ?_|refine qO ?_|(with_reducible intro z hz);(first|(replace hz:=hz (by omega);subst hz)|subst hz));(try (conv=>whnf))))
     refine Idx.mk k (spv y) _ rfl (by simp[hy]) rfl ?_
     (try (conv=>whnf));(repeat ((first|refine qT ?_|refine qF ?_|refine qO ?_|(with_reducible intro z hz);(first|(replace hz:=hz (by omega);subst hz)|subst hz));(try (conv=>whnf))))
     exact⟨k+1,⟨by omega,gK hy hpre (by unfold uS;exact decide_eq_true hs)⟩,by dsimp only;omega,(qSL 1 rfl rfl)⟩
    ·have hno:x.p.all uS=false:=jR hy (by unfold uS;exact decide_eq_false hs)
     have hf:fC x=false:=by rw[hfe,hno,Bool.false_and]
     rw[hf]at hfin
     (try (conv=>whnf));(repeat ((first|refine qT ?_|refine qF ?_|refine qO ?_|(with_reducible intro z hz);(first|(replace hz:=hz (by omega);subst hz)|subst hz));(try (conv=>whnf))))
     refine Idx.mk k (spv y) _ rfl (by simp[hy]) rfl ?_
     (try (conv=>whnf));(repeat ((first|refine qT ?_|refine qF ?_|refine qO ?_|(with_reducible intro z hz);(first|(replace hz:=hz (by omega);subst hz)|subst hz));(try (conv=>whnf))))
     exact hfin _ (ay.refl _)
   |inr hge=>
    obtain rfl:k=x.p.length:=by omega
    rw[List.take_length]at hpre
    rw[hpre,Bool.true_and]at hfe
    clear hpre hge hk
    (try (conv=>whnf));(repeat ((first|refine qT ?_|refine qF ?_|refine qO ?_|(with_reducible intro z hz);(first|(replace hz:=hz (by omega);subst hz)|subst hz));(try (conv=>whnf))))
    refine hLP _ _ _ Nat (fun k=>⟨[(1,.ptr 0 1 0),(6,.imm (.int .i64 (k:Nat)))],[.box 1 [.imm (.int .i64 x.kind),.imm (.sl 2 (x.p.map spv)),.imm (.sl 2 (x.q.map spv)),.imm (.int .i64 x.z),.imm (.int .i64 x.nth),.imm (.int .i64 x.unit.id.x),.imm (.int .i64 x.unit.id.y),.imm (.int .i64 x.unit.id.z),.imm (.int .i64 x.unit.kind),.imm (.str x.unit.label),.imm (.sl 4 (x.unit.head.map wdv)),.imm (.sl 4 (x.unit.words.map wdv)),.imm (.sl 8 (x.unit.kids.map uv)),.imm (.sl 1 (x.old.map IV.str)),.imm (.sl 1 (x.new.map IV.str)),.imm (.str x.lb),.imm (.str x.fr),.imm (.int .i64 x.sk),.imm (.int .i64 x.sd),.imm (.str x.se),.imm (.int .i64 x.a),.imm (.int .i64 x.i),.imm (.int .i64 x.d),.imm (.str x.ev),.imm (.sl 25 (x.bys.map itv))]]⟩) (fun k=>k≤x.q.length∧(x.q.take k).all uS=true) (fun k=>x.q.length - k) 0 ⟨Nat.zero_le _,rfl⟩ (qSL 1 rfl rfl) ?_
    rintro k ⟨hk,hpre⟩
    have hho:=Nat.lt_or_ge k x.q.length
    cases hho with
    |inl hlt=>
     obtain⟨y,hy⟩:∃y,x.q[k]?=some y:=⟨x.q[k],List.getElem?_eq_getElem hlt⟩
     by_cases hs:y.label.size≤100
     ·(try (conv=>whnf));(repeat ((first|refine qT ?_|refine qF ?_|refine qO ?_|(with_reducible intro z hz);(first|(replace hz:=hz (by omega);subst hz)|subst hz));(try (conv=>whnf))))
      refine Idx.mk k (spv y) _ rfl (by simp[hy]) rfl ?_
      (try (conv=>whnf));(repeat ((first|refine qT ?_|refine qF ?_|refine qO ?_|(with_reducible intro z hz);(first|(replace hz:=hz (by omega);subst hz)|subst hz));(try (conv=>whnf))))
      exact⟨k+1,⟨by omega,gK hy hpre (by unfold uS;exact decide_eq_true hs)⟩,by dsimp only;omega,(qSL 1 rfl rfl)⟩
     ·have hno:x.q.all uS=false:=jR hy (by unfold uS;exact decide_eq_false hs)
      have hf:fC x=false:=by rw[hfe,hno,Bool.false_and]
      rw[hf]at hfin
      (try (conv=>whnf));(repeat ((first|refine qT ?_|refine qF ?_|refine qO ?_|(with_reducible intro z hz);(first|(replace hz:=hz (by omega);subst hz)|subst hz));(try (conv=>whnf))))
      refine Idx.mk k (spv y) _ rfl (by simp[hy]) rfl ?_
      (try (conv=>whnf));(repeat ((first|refine qT ?_|refine qF ?_|refine qO ?_|(with_reducible intro z hz);(first|(replace hz:=hz (by omega);subst hz)|subst hz));(try (conv=>whnf))))
      exact hfin _ (ay.refl _)
    |inr hge=>
     obtain rfl:k=x.q.length:=by omega
     rw[List.take_length]at hpre
     rw[hpre,Bool.true_and]at hfe
     clear hpre hge hk
     (try (conv=>whnf));(repeat ((first|refine qT ?_|refine qF ?_|refine qO ?_|(with_reducible intro z hz);(first|(replace hz:=hz (by omega);subst hz)|subst hz));(try (conv=>whnf))))
     refine hLP _ _ _ Nat (fun k=>⟨[(1,.ptr 0 1 0),(7,.imm (.int .i64 (k:Nat)))],[.box 1 [.imm (.int .i64 x.kind),.imm (.sl 2 (x.p.map spv)),.imm (.sl 2 (x.q.map spv)),.imm (.int .i64 x.z),.imm (.int .i64 x.nth),.imm (.int .i64 x.unit.id.x),.imm (.int .i64 x.unit.id.y),.imm (.int .i64 x.unit.id.z),.imm (.int .i64 x.unit.kind),.imm (.str x.unit.label),.imm (.sl 4 (x.unit.head.map wdv)),.imm (.sl 4 (x.unit.words.map wdv)),.imm (.sl 8 (x.unit.kids.map uv)),.imm (.sl 1 (x.old.map IV.str)),.imm (.sl 1 (x.new.map IV.str)),.imm (.str x.lb),.imm (.str x.fr),.imm (.int .i64 x.sk),.imm (.int .i64 x.sd),.imm (.str x.se),.imm (.int .i64 x.a),.imm (.int .i64 x.i),.imm (.int .i64 x.d),.imm (.str x.ev),.imm (.sl 25 (x.bys.map itv))]]⟩) (fun k=>k≤x.bys.length∧je (x.bys.take k)=true) (fun k=>x.bys.length - k) 0 ⟨Nat.zero_le _,rfl⟩ (qSL 1 rfl rfl) ?_
     rintro k ⟨hk,hpre⟩
     have hho:=Nat.lt_or_ge k x.bys.length
     cases hho with
     |inl hlt=>
      obtain⟨y,hy⟩:∃y,x.bys[k]?=some y:=⟨x.bys[k],List.getElem?_eq_getElem hlt⟩
      have hI:=ih y (List.mem_of_getElem? hy)
      have hyv:=aT y
      have hfy:=hb y (List.mem_of_getElem? hy)
      have hyl:y.bys.length≤maxLen:=by cases hfy with|mk _ _ h1 _=>exact h1.2.2.2.2
      unfold maxLen at hyl
      have hym:(y.bys.map itv).length=y.bys.length:=List.length_map _
      rw[hyv]at hI
      by_cases hye:y.bys=[]
      ·have hflat:uE y=true:=by unfold uE;rw[hye]
       have hyz:y.bys.length=0:=by rw[hye];rfl
       cases hfy':fC y
       ·have hno:=wB hy (by rw[hfy',Bool.and_false])
        have hf:fC x=false:=by rw[hfe,hno]
        rw[hf]at hfin
        rw[hfy']at hI
        (try (conv=>whnf));(repeat ((first|refine qT ?_|refine qF ?_|refine qO ?_|(with_reducible intro z hz);(first|(replace hz:=hz (by omega);subst hz)|subst hz));(try (conv=>whnf))))
        refine Idx.mk k (itv y) _ rfl (by simp[hy]) (by rw[hyv];try rfl) ?_
        (try (conv=>whnf));(repeat ((first|refine qT ?_|refine qF ?_|refine qO ?_|(with_reducible intro z hz);(first|(replace hz:=hz (by omega);subst hz)|subst hz));(try (conv=>whnf))))
        refine Idx.mk k (itv y) _ rfl (by simp[hy]) (by rw[hyv];try rfl) ?_
        (try (conv=>whnf));(repeat ((first|refine qT ?_|refine qF ?_|refine qO ?_|(with_reducible intro z hz);(first|(replace hz:=hz (by omega);subst hz)|subst hz)|(refine ah.mk _ (hC _ _ _ (PCw.of hI)) (fun js hjs=>?_);subst hjs));(try (conv=>whnf))))
        exact hfin _ (ay.refl _)
       ·rw[hfy']at hI
        (try (conv=>whnf));(repeat ((first|refine qT ?_|refine qF ?_|refine qO ?_|(with_reducible intro z hz);(first|(replace hz:=hz (by omega);subst hz)|subst hz));(try (conv=>whnf))))
        refine Idx.mk k (itv y) _ rfl (by simp[hy]) (by rw[hyv];try rfl) ?_
        (try (conv=>whnf));(repeat ((first|refine qT ?_|refine qF ?_|refine qO ?_|(with_reducible intro z hz);(first|(replace hz:=hz (by omega);subst hz)|subst hz));(try (conv=>whnf))))
        refine Idx.mk k (itv y) _ rfl (by simp[hy]) (by rw[hyv];try rfl) ?_
        (try (conv=>whnf));(repeat ((first|refine qT ?_|refine qF ?_|refine qO ?_|(with_reducible intro z hz);(first|(replace hz:=hz (by omega);subst hz)|subst hz)|(refine ah.mk _ (hC _ _ _ (PCw.of hI)) (fun js hjs=>?_);subst hjs));(try (conv=>whnf))))
        exact⟨k+1,⟨by omega,by rw[take_at hy,oP,hpre];simp[je,hfy',hflat]⟩,by dsimp only;omega,(qSL 1 rfl rfl)⟩
      ·obtain⟨g,r,hgr⟩:=List.exists_cons_of_ne_nil hye
       have hyz:0 < y.bys.length:=by rw[hgr];simp
       have hgv:=aT g
       have hgf:wU g:=by cases hfy with|mk _ _ _ hb'=>exact hb' g (by rw[hgr];exact List.mem_cons_self)
       have hgl:g.bys.length≤maxLen:=by cases hgf with|mk _ _ h1 _=>exact h1.2.2.2.2
       unfold maxLen at hgl
       have hgm:(g.bys.map itv).length=g.bys.length:=List.length_map _
       have hg0:(y.bys.map itv)[0]?=some (itv g):=by rw[hgr];rfl
       by_cases hge:g.bys=[]
       ·have hflat:uE y=true:=by unfold uE;rw[hgr];simp[hge]
        have hgz:g.bys.length=0:=by rw[hge];rfl
        cases hfy':fC y
        ·have hno:=wB hy (by rw[hfy',Bool.and_false])
         have hf:fC x=false:=by rw[hfe,hno]
         rw[hf]at hfin
         rw[hfy']at hI
         (try (conv=>whnf));(repeat ((first|refine qT ?_|refine qF ?_|refine qO ?_|(with_reducible intro z hz);(first|(replace hz:=hz (by omega);subst hz)|subst hz));(try (conv=>whnf))))
         refine Idx.mk k (itv y) _ rfl (by simp[hy]) (by rw[hyv];try rfl) ?_
         (try (conv=>whnf));(repeat ((first|refine qT ?_|refine qF ?_|refine qO ?_|(with_reducible intro z hz);(first|(replace hz:=hz (by omega);subst hz)|subst hz));(try (conv=>whnf))))
         refine Idx.mk k (itv y) _ rfl (by simp[hy]) (by rw[hyv];try rfl) ?_
         (try (conv=>whnf));(repeat ((first|refine qT ?_|refine qF ?_|refine qO ?_|(with_reducible intro z hz);(first|(replace hz:=hz (by omega);subst hz)|subst hz));(try (conv=>whnf))))
         refine Idx.mk 0 (itv g) _ rfl hg0 (by rw[hgv];try rfl) ?_
         (try (conv=>whnf));(repeat ((first|refine qT ?_|refine qF ?_|refine qO ?_|(with_reducible intro z hz);(first|(replace hz:=hz (by omega);subst hz)|subst hz));(try (conv=>whnf))))
         refine Idx.mk k (itv y) _ rfl (by simp[hy]) (by rw[hyv];try rfl) ?_
         (try (conv=>whnf));(repeat ((first|refine qT ?_|refine qF ?_|refine qO ?_|(with_reducible intro z hz);(first|(replace hz:=hz (by omega);subst hz)|subst hz)|(refine ah.mk _ (hC _ _ _ (PCw.of hI)) (fun js hjs=>?_);subst hjs));(try (conv=>whnf))))
         exact hfin _ (ay.refl _)
        ·rw[hfy']at hI
         (try (conv=>whnf));(repeat ((first|refine qT ?_|refine qF ?_|refine qO ?_|(with_reducible intro z hz);(first|(replace hz:=hz (by omega);subst hz)|subst hz));(try (conv=>whnf))))
         refine Idx.mk k (itv y) _ rfl (by simp[hy]) (by rw[hyv];try rfl) ?_
         (try (conv=>whnf));(repeat ((first|refine qT ?_|refine qF ?_|refine qO ?_|(with_reducible intro z hz);(first|(replace hz:=hz (by omega);subst hz)|subst hz));(try (conv=>whnf))))
         refine Idx.mk k (itv y) _ rfl (by simp[hy]) (by rw[hyv];try rfl) ?_
         (try (conv=>whnf));(repeat ((first|refine qT ?_|refine qF ?_|refine qO ?_|(with_reducible intro z hz);(first|(replace hz:=hz (by omega);subst hz)|subst hz));(try (conv=>whnf))))
         refine Idx.mk 0 (itv g) _ rfl hg0 (by rw[hgv];try rfl) ?_
         (try (conv=>whnf));(repeat ((first|refine qT ?_|refine qF ?_|refine qO ?_|(with_reducible intro z hz);(first|(replace hz:=hz (by omega);subst hz)|subst hz));(try (conv=>whnf))))
         refine Idx.mk k (itv y) _ rfl (by simp[hy]) (by rw[hyv];try rfl) ?_
         (try (conv=>whnf));(repeat ((first|refine qT ?_|refine qF ?_|refine qO ?_|(with_reducible intro z hz);(first|(replace hz:=hz (by omega);subst hz)|subst hz)|(refine ah.mk _ (hC _ _ _ (PCw.of hI)) (fun js hjs=>?_);subst hjs));(try (conv=>whnf))))
         exact⟨k+1,⟨by omega,by rw[take_at hy,oP,hpre];simp[je,hfy',hflat]⟩,by dsimp only;omega,(qSL 1 rfl rfl)⟩
       ·have hflat:uE y=false:=by
         unfold uE
         rw[hgr]
         show g.bys.isEmpty=false
         cases hgb:g.bys with
         |nil=>exact absurd hgb hge
         |cons _ _=>rfl
        have hgz:0 < g.bys.length:=List.length_pos_iff.2 hge
        have hno:=wB hy (by rw[hflat,Bool.false_and])
        have hf:fC x=false:=by rw[hfe,hno]
        rw[hf]at hfin
        (try (conv=>whnf));(repeat ((first|refine qT ?_|refine qF ?_|refine qO ?_|(with_reducible intro z hz);(first|(replace hz:=hz (by omega);subst hz)|subst hz));(try (conv=>whnf))))
        refine Idx.mk k (itv y) _ rfl (by simp[hy]) (by rw[hyv];try rfl) ?_
        (try (conv=>whnf));(repeat ((first|refine qT ?_|refine qF ?_|refine qO ?_|(with_reducible intro z hz);(first|(replace hz:=hz (by omega);subst hz)|subst hz));(try (conv=>whnf))))
        refine Idx.mk k (itv y) _ rfl (by simp[hy]) (by rw[hyv];try rfl) ?_
        (try (conv=>whnf));(repeat ((first|refine qT ?_|refine qF ?_|refine qO ?_|(with_reducible intro z hz);(first|(replace hz:=hz (by omega);subst hz)|subst hz));(try (conv=>whnf))))
        refine Idx.mk 0 (itv g) _ rfl hg0 (by rw[hgv];try rfl) ?_
        (try (conv=>whnf));(repeat ((first|refine qT ?_|refine qF ?_|refine qO ?_|(with_reducible intro z hz);(first|(replace hz:=hz (by omega);subst hz)|subst hz));(try (conv=>whnf))))
        exact hfin _ (ay.refl _)
     |inr hge=>
      obtain rfl:k=x.bys.length:=by omega
      rw[List.take_length]at hpre
      rw[hpre]at hfe
      rw[hfe]at hfin
      (try (conv=>whnf));(repeat ((first|refine qT ?_|refine qF ?_|refine qO ?_|(with_reducible intro z hz);(first|(replace hz:=hz (by omega);subst hz)|subst hz));(try (conv=>whnf))))
      exact hfin _ (ay.refl _)
end Go.Proofs.YtfjibfdelbodjaaGreat.Po
