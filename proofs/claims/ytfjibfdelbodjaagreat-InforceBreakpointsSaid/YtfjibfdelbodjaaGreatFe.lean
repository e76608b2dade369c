/-
  In force: the law of the amendments in force. In force: Interval; the reference's Put, Days, Class. In force: the reference's breakpoints and classes; their law. In force: the law of breakpoints and intervals.
-/
import Derived.Test.YtfjibfdelbodjaaGreatFd
import Derived.Test.YtfjibfdelbodjaaGreatHb
import Derived.Test.YtfjibfdelbodjaaGreatShelf
namespace Go.Proofs.YtfjibfdelbodjaaGreat.Po
open Go Go.Pv Go.RowKit
set_option linter.unusedSimpArgs false
open Lab Lcs Go.Proofs.YtfjibfdelbodjaaGreat Go.Proofs.YtfjibfdelbodjaaGreat.Pu
set_option maxRecDepth 10000
set_option maxHeartbeats 32000000
namespace F
theorem Ub {α:Type} {p:α→Bool} {l:List α} {k:Nat} {x:α} (h:l[k]?=some x):(l.take (k+1)).filter p=if p x=true then (l.take k).filter p++[x] else (l.take k).filter p:=by
 rw[take_at h,List.filter_append]
 cases hx:p x<;>simp[List.filter_cons,hx]
theorem Qw (l:List Gz) (hF:Qy l):PC Tryz.prog aM 10 [.sl 4 (l.map gzv)] [.bool (CJ l 30)]:=by
 have hFw:=Ns l 30 (by omega) (by omega) (by have:=hF.1;unfold maxLen;omega) hF.2
 refine PC.aj (T:=dZ) aS bB rfl mixed Tryz.func10 rfl rfl (Nat.le_of_ble_eq_true rfl) ?_;intro Γ C WK LP fin h0 hW hC hB hR hLP hfin
 (try (conv=>whnf));(repeat ((first|refine qT ?_|refine qF ?_|refine qO ?_|(with_reducible intro z hz);(first|(replace hz:=hz (by omega);subst hz)|subst hz)|(refine ah.mk _ (hC _ _ _ (PCw.of hFw)) (fun js hjs=>?_);subst hjs));(try (conv=>whnf))))
 exact hfin _ (aA.refl _)
theorem Qp {l:List Gz} {m:Nat} (h:bO l m) (day:Int) (p:Str):(onG l day p).length≤m:=Nat.le_trans (Js _ _ p day _) h.jI
theorem Mj {l:List Gz} {m:Nat} (h:bO l m) (day:Int) (p:Str):∀e∈onG l day p,CpI e.it:=fun e he=>h.cp e (List.mem_filter.1 (List.mem_filter.1 he).1).1
end F
end Go.Proofs.YtfjibfdelbodjaaGreat.Po
namespace Go.Proofs.YtfjibfdelbodjaaGreat.Po
open Go Go.Pv Go.RowKit
set_option linter.unusedSimpArgs false
open Lab Lcs Go.Proofs.YtfjibfdelbodjaaGreat Go.Proofs.YtfjibfdelbodjaaGreat.Pu
set_option maxRecDepth 10000
set_option maxHeartbeats 32000000
namespace F
theorem J8 {Q:Nat→Prop} {w:World} {b:Nat}:∀{L:List Int} {off:Nat},dA Q w 1 b off (L.map kI)→∀j,j < L.length→w.cell? ⟨b,off+j,none⟩=some (.int .i64 (L.getD j 0))
 |[],_,_,j,h=>absurd h (by simp)
 |x::L,off,hr,0,_=>by
  simp only[List.map_cons]at hr
  unfold dA at hr
  obtain⟨⟨v,hv,_,hc⟩,_⟩:=hr
  unfold kI aF at hv
  subst hv
  exact hc 0 _ rfl
 |x::L,off,hr,j+1,h=>by
  simp only[List.map_cons]at hr
  unfold dA at hr
  have:=J8 hr.2 j (by simpa using h)
  rw[show off+(j+1)=off+1+j by omega,this]
  rfl
theorem SN (L:List Int) (x:Int) (hs:L.Pairwise (·≤·)) (hL:L.length≤1000000000):PC Tryz.prog aM 41 [.sl 1 (L.map kI),.int .i64 x] [.int .i64 (L.countP (· < x):Nat),.bool (L.contains x)]:=by
 refine⟨enters_of Tryz.func41 rfl rfl,?_⟩
 intro Q w vs hQ hG hX hr
 unfold aV at hr
 obtain⟨v,r,rfl,h1,hr⟩:=hr
 unfold aV at hr
 obtain⟨v2,r2,rfl,h2,hr⟩:=hr
 unfold aV at hr
 subst hr
 unfold aF at h2
 subst h2
 unfold aF at h1
 obtain⟨a,c,rfl,hlc,hcm,hrow⟩:=h1
 rw[List.length_map]at hrow ⊢
 cases L with
 |nil=>
  have hcon:=Tryz.slices_BinarySearch_int_empty a c x w
  change Calls Tryz.prog 41 _ _ _ at hcon
  refine hcon.mono ?_
  rintro e w' ⟨rfl,rfl⟩
  exact⟨_,Q,rfl,Below.refl _ _,fun _ h=>h,fun b h=>⟨Or.inl h,hQ b h⟩,[.int .i64 0,.bool false],rfl,by unfold aV;exact⟨_,_,rfl,by unfold aF;rfl,by unfold aV;exact⟨_,_,rfl,by unfold aF;rfl,by unfold aV;rfl⟩⟩⟩
 |cons z L=>
  obtain⟨b,off,rfl,hb,hR⟩:=hrow (by simp)
  have hcon:=Tryz.slices_BinarySearch_int b off (z::L).length c (z::L) x w (Nat.le_refl _) (by omega) (fun j hj=>J8 hR j hj) (by rw[List.take_length];exact hs)
  rw[List.take_length]at hcon
  change Calls Tryz.prog 41 _ _ _ at hcon
  refine hcon.mono ?_
  rintro e w' ⟨rfl,q,rfl⟩
  exact⟨_,Q,rfl,⟨rfl,rfl,rfl,Nat.le_refl _,fun _ _=>rfl⟩,fun _ h=>h,fun b h=>⟨Or.inl h,hQ b h⟩,[_,_],rfl,by unfold aV;exact⟨_,_,rfl,by unfold aF;rfl,by unfold aV;exact⟨_,_,rfl,by unfold aF;rfl,by unfold aV;rfl⟩⟩⟩
theorem xH:∀{l:List Int},l.Pairwise (·≤·)→(ded l).Pairwise (· < ·)
 |[],_=>List.Pairwise.nil
 |[x],_=>by simp[ded]
 |x::y::l,h=>by
  have h':=List.pairwise_cons.1 h
  have ih:=xH h'.2
  unfold ded
  split
  ·exact ih
  ·rename_i hne
   refine List.pairwise_cons.2 ⟨fun z hz=>?_,ih⟩
   have hz:=(Bw z _).1 hz
   have h1:=h'.1 y List.mem_cons_self
   rcases List.mem_cons.1 hz with rfl|hz
   ·omega
   ·have:=(List.pairwise_cons.1 h'.2).1 z hz
    omega
theorem wo (l:List Gz):(brk l).Pairwise (· < ·):=xH (tV _)
theorem JB (l:List Gz) (z:Int):z∈brk l↔z∈bpL (bn (allA l)) (aW l) (aW l):=by
 unfold brk
 rw[Bw]
 exact (List.mergeSort_perm ..).mem_iff
theorem vk {l:List Gz} {m:Nat} (hm:m≤300) (h:bO l m):(brk l).length≤1000000:=by
 have h1:=Fx hm h
 have h2:=A8 (BQ (bpL (bn (allA l)) (aW l) (aW l)))
 have h3:(BQ (bpL (bn (allA l)) (aW l) (aW l))).length=_:=List.length_mergeSort _
 unfold brk
 omega
def jR (B:List Int) (day:Int):Int:=if day < 0∨1048576 < day then -1 else (B.countP (fun x=>decide (x≤day)):Nat) - 1
theorem tQ {l:List Gz} {m:Nat} (hm:m≤300) (h:bO l m) (day:Int):PC Tryz.prog aM 18 [.int .i64 day,.sl 4 (l.map gzv)] [.int .i64 (jR (brk l) day)]:=by
 have hBk:=II hm h
 have hBs:=SN (brk l) (day+1) ((wo l).imp fun h=>by omega) (by have:=vk hm h;omega)
 have hcl:=vk hm h
 have hcn:(brk l).countP (· < day+1)=(brk l).countP (fun x=>decide (x≤day)):=by
  congr 1
  funext x
  exact decide_eq_decide.2 (by omega)
 have hle:(brk l).countP (fun x=>decide (x≤day))≤(brk l).length:=List.countP_le_length
 rw[hcn]at hBs
 unfold jR
 generalize (brk l).countP (fun x=>decide (x≤day))=n at *
 generalize (brk l).contains (day+1)=fd at *
 generalize brk l=B at *
 by_cases h1:day < 0
 ·rw[if_pos (Or.inl h1)]
  refine PC.aj (T:=dZ) aS bB rfl mixed Tryz.func18 rfl rfl (Nat.le_of_ble_eq_true rfl) ?_;intro Γ C WK LP fin h0 hW hC hB hR hLP hfin
  have h00:Γ.n0=0:=h0
  (try (conv=>whnf));(repeat ((first|refine qT ?_|refine qF ?_|refine qO ?_|(with_reducible intro z hz);(first|(replace hz:=hz (by omega);subst hz)|subst hz));(try (conv=>whnf))))
  exact hfin _ (aA.refl _)
 by_cases h2:1048576 < day
 ·rw[if_pos (Or.inr h2)]
  refine PC.aj (T:=dZ) aS bB rfl mixed Tryz.func18 rfl rfl (Nat.le_of_ble_eq_true rfl) ?_;intro Γ C WK LP fin h0 hW hC hB hR hLP hfin
  have h00:Γ.n0=0:=h0
  (try (conv=>whnf));(repeat ((first|refine qT ?_|refine qF ?_|refine qO ?_|(with_reducible intro z hz);(first|(replace hz:=hz (by omega);subst hz)|subst hz));(try (conv=>whnf))))
  exact hfin _ (aA.refl _)
 rw[if_neg (by omega)]
 refine PC.aj (T:=dZ) aS bB rfl mixed Tryz.func18 rfl rfl (Nat.le_of_ble_eq_true rfl) ?_;intro Γ C WK LP fin h0 hW hC hB hR hLP hfin
 have h00:Γ.n0=0:=h0
 (try (conv=>whnf));(repeat ((first|refine qT ?_|refine qF ?_|refine qO ?_|(with_reducible intro z hz);(first|(replace hz:=hz (by omega);subst hz)|subst hz)|(refine ah.mk _ (hC _ _ _ (PCw.of hBk)) (fun js hjs=>?_);subst hjs)|(refine ah.mk _ (hC _ _ _ (PCw.of hBs)) (fun js hjs=>?_);subst hjs));(try (conv=>whnf))))
 exact hfin _ (aA.refl _)
theorem sH (out:List Int) (x:Int) (hl:out.length≤1000000):PC Tryz.prog aM 46 [.sl 1 (out.map kI),.int .i64 x] [.sl 1 ((iJ x out).map kI)]:=by
 have hml:(out.map kI).length=out.length:=List.length_map _
 refine PC.aj (T:=dZ) aS bB rfl mixed Tryz.func46 rfl rfl (Nat.le_of_ble_eq_true rfl) ?_;intro Γ C WK LP fin h0 hW hC hB hR hLP hfin
 have h00:Γ.n0=0:=h0
 (try (conv=>whnf));(repeat ((first|refine qT ?_|refine qF ?_|refine qO ?_|(with_reducible intro z hz);(first|(replace hz:=hz (by omega);subst hz)|subst hz));(try (conv=>whnf))))
 refine hLP _ _ _ Nat (fun j=>⟨[(0,.imm (.sl 1 (out.map kI))),(1,.imm (.int .i64 x)),(5,.imm (.int .i64 (j:Nat)))],[]⟩) (fun j=>j≤out.length∧∀b∈out.take j,pI x b=true) (fun j=>out.length - j) 0 ⟨Nat.zero_le _,by simp⟩ ((qSL 0 rfl rfl)) ?_
 rintro j ⟨hj,hall⟩
 have hfinish:∀(hh:j=out.length∨∃y,out[j]?=some y∧pI x y=false),iJ x out=if out[j]?=some x then out else out.take j++x::out.drop j:=fun hh=>by
  obtain⟨h1,h2⟩:=OD (p:=pI x) hall hh
  unfold iJ
  rw[h1,h2,List.head?_drop]
 have hhj:=Nat.lt_or_ge j out.length
 cases hhj with
 |inl hjl=>
  obtain⟨b,hb⟩:∃b,out[j]?=some b:=⟨out[j],List.getElem?_eq_getElem hjl⟩
  by_cases hab:b < x
  ·(try (conv=>whnf));(repeat ((first|refine qT ?_|refine qF ?_|refine qO ?_|(with_reducible intro z hz);(first|(replace hz:=hz (by omega);subst hz)|subst hz));(try (conv=>whnf))))
   refine Idx.mk j (kI b) _ rfl (by simp[hb]) rfl ?_
   (try (conv=>whnf));(repeat ((first|refine qT ?_|refine qF ?_|refine qO ?_|(with_reducible intro z hz);(first|(replace hz:=hz (by omega);subst hz)|subst hz));(try (conv=>whnf))))
   exact⟨j+1,⟨by omega,fun y hy=>by
    rw[take_at hb]at hy
    rcases List.mem_append.1 hy with hy|hy
    ·exact hall y hy
    ·obtain rfl:=List.mem_singleton.1 hy;exact decide_eq_true hab⟩,by dsimp only;omega,(qSL 0 rfl rfl)⟩
  ·have hins:=hfinish (Or.inr ⟨b,hb,decide_eq_false hab⟩)
   by_cases hbe:b=x
   ·rw[if_pos (by rw[hb,hbe])]at hins
    rw[hins]at hfin
    (try (conv=>whnf));(repeat ((first|refine qT ?_|refine qF ?_|refine qO ?_|(with_reducible intro z hz);(first|(replace hz:=hz (by omega);subst hz)|subst hz));(try (conv=>whnf))))
    refine Idx.mk j (kI b) _ rfl (by simp[hb]) rfl ?_
    (try (conv=>whnf));(repeat ((first|refine qT ?_|refine qF ?_|refine qO ?_|(with_reducible intro z hz);(first|(replace hz:=hz (by omega);subst hz)|subst hz));(try (conv=>whnf))))
    refine Idx.mk j (kI b) _ rfl (by simp[hb]) rfl ?_
    (try (conv=>whnf));(repeat ((first|refine qT ?_|refine qF ?_|refine qO ?_|(with_reducible intro z hz);(first|(replace hz:=hz (by omega);subst hz)|subst hz));(try (conv=>whnf))))
    exact hfin _ (aA.refl _)
   ·rw[if_neg (by rw[hb];simpa using hbe)]at hins
    rw[hins]at hfin
    (try (conv=>whnf));(repeat ((first|refine qT ?_|refine qF ?_|refine qO ?_|(with_reducible intro z hz);(first|(replace hz:=hz (by omega);subst hz)|subst hz));(try (conv=>whnf))))
    refine Idx.mk j (kI b) _ rfl (by simp[hb]) rfl ?_
    (try (conv=>whnf));(repeat ((first|refine qT ?_|refine qF ?_|refine qO ?_|(with_reducible intro z hz);(first|(replace hz:=hz (by omega);subst hz)|subst hz));(try (conv=>whnf))))
    refine Idx.mk j (kI b) _ rfl (by simp[hb]) rfl ?_
    (try (conv=>whnf));(repeat ((first|refine qT ?_|refine qF ?_|refine qO ?_|(with_reducible intro z hz);(first|(replace hz:=hz (by omega);subst hz)|subst hz));(try (conv=>whnf))))
    refine bN.mk ((out.take j++x::out.drop j).map kI) (by simp[kI]) ?_
    exact hfin _ (aA.refl _)
 |inr hjg=>
  obtain rfl:j=out.length:=by omega
  have hins:=hfinish (Or.inl rfl)
  rw[if_neg (by rw[List.getElem?_eq_none (Nat.le_refl _)];simp)]at hins
  rw[hins]at hfin
  (try (conv=>whnf));(repeat ((first|refine qT ?_|refine qF ?_|refine qO ?_|(with_reducible intro z hz);(first|(replace hz:=hz (by omega);subst hz)|subst hz));(try (conv=>whnf))))
  rw[List.take_length,List.drop_length]at hfin
  refine bN.mk ((out++[x]).map kI) (by simp[kI,List.take_of_length_le,List.drop_of_length_le]) ?_
  exact hfin _ (aA.refl _)
def ig (L:List Int):List Int:=L.foldl (fun o x=>iJ x o) [0]
theorem sV (L:List Int) (x:Int):ig (L++[x])=iJ x (ig L):=by
 unfold ig
 rw[List.foldl_append]
 rfl
theorem vU:∀(L:List Int) (o:List Int),o.Pairwise (· < ·)→(L.foldl (fun o x=>iJ x o) o).Pairwise (· < ·)∧(∀z,z∈L.foldl (fun o x=>iJ x o) o↔z∈o∨z∈L)∧(L.foldl (fun o x=>iJ x o) o).length≤o.length+L.length
 |[],o,h=>⟨h,fun z=>by simp,Nat.le_refl _⟩
 |x::L,o,h=>by
  obtain⟨h1,h2,h3⟩:=vU L (iJ x o) (uo h)
  refine⟨h1,fun z=>?_,?_⟩
  ·rw[List.foldl_cons,h2 z,Gh,List.mem_cons]
   constructor
   ·rintro ((h|h)|h)
    ·exact Or.inr (Or.inl h)
    ·exact Or.inl h
    ·exact Or.inr (Or.inr h)
   ·rintro (h|h|h)
    ·exact Or.inl (Or.inr h)
    ·exact Or.inl (Or.inl h)
    ·exact Or.inr h
  ·have:=EK x o
   rw[List.foldl_cons,List.length_cons]
   omega
theorem H6 {a b:List Int} (ha:a.Pairwise (· < ·)) (hb:b.Pairwise (· < ·)) (h:∀z,z∈a↔z∈b):a=b:=
 (lM ((List.perm_ext_iff_of_nodup (ha.imp fun h=>by omega) (hb.imp fun h=>by omega)).2 h) hb (ha.imp fun h=>by omega))
noncomputable def flt (l:List Gz) (L:List Ei):List Int:=(amL L).flatMap fun d=>bnd (jP l d)
theorem Qb (l:List Gz):ig (flt l (aW l))=brk l:=by
 obtain⟨h1,h2,_⟩:=vU (flt l (aW l)) [0] (by simp)
 refine H6 h1 (wo l) fun z=>?_
 rw[JB]
 unfold ig
 rw[h2 z]
 unfold bpL flt
 rw[List.mem_singleton]
 exact List.mem_cons.symm
end F
end Go.Proofs.YtfjibfdelbodjaaGreat.Po
namespace Go.Proofs.YtfjibfdelbodjaaGreat.Po
open Go Go.Pv Go.RowKit
set_option linter.unusedSimpArgs false
open Lab Lcs Go.Proofs.YtfjibfdelbodjaaGreat Go.Proofs.YtfjibfdelbodjaaGreat.Pu
set_option maxRecDepth 10000
set_option maxHeartbeats 32000000
namespace F
theorem Oz {l:List Gz} {cs:List Ei} {k:Nat} {d:Ei} (h:cs[k]?=some d):(cs.take (k+1)).flatMap (fun d=>bnd (jP l d))=(cs.take k).flatMap (fun d=>bnd (jP l d))++bnd (jP l d):=by
 rw[take_at h,List.flatMap_append]
 simp
theorem zM {l:List Gz} {m:Nat} (hm:m≤300) (h30:bO l m):PC Tryz.prog aM 21 [.sl 4 (l.map gzv)] [.sl 1 ((brk l).map kI)]:=by
 have hCh:=Iw hm h30
 have hOf:∀d,_:=fun d=>Nz hm h30 d
 have hDl:=h30.jI
 have hdl:∀d,(jP l d).length≤1+(aW l).length:=fun d=>o7 _ _ d
 rw[←Qb]
 unfold flt
 have hcl:(amL (aW l)).length≤(aW l).length:=List.length_filter_le _ _
 have hbp:∀k,((amL (aW l)).take k).flatMap (fun d=>bnd (jP l d)) <+: (amL (aW l)).flatMap (fun d=>bnd (jP l d)):=fun k=>by
  refine⟨((amL (aW l)).drop k).flatMap (fun d=>bnd (jP l d)),?_⟩
  rw[←List.flatMap_append,List.take_append_drop]
 have hbl:((amL (aW l)).flatMap (fun d=>bnd (jP l d))).length≤300000:=by
  have h1:=Ca (bn (allA l)) (aW l) (aW l)
  have h2:=Nat.mul_le_mul (show (aW l).length≤300 by omega) (show 2+2*(aW l).length≤602 by omega)
  have h3:(bpL (bn (allA l)) (aW l) (aW l)).length=((amL (aW l)).flatMap (fun d=>bnd (jP l d))).length+1:=List.length_cons
  omega
 generalize amL (aW l)=cs at *
 generalize (aW l).length=dn at *
 have hmc:(cs.map eiv).length=cs.length:=List.length_map _
 refine PC.aj (T:=dZ) aS bB rfl mixed Tryz.func21 rfl rfl (Nat.le_of_ble_eq_true rfl) ?_;intro Γ C WK LP fin h0 hW hC hB hR hLP hfin
 have h00:Γ.n0=0:=h0
 (try (conv=>whnf));(repeat ((first|refine qT ?_|refine qF ?_|refine qO ?_|(with_reducible intro z hz);(first|(replace hz:=hz (by omega);subst hz)|subst hz)|(refine ah.mk _ (hC _ _ _ (PCw.of hCh)) (fun js hjs=>?_);subst hjs));(try (conv=>whnf))))
 refine hLP _ _ _ Nat (fun k=>⟨[(0,.imm (.sl 4 (l.map gzv))),(3,.imm (.sl 1 ((ig ((cs.take k).flatMap (fun d=>bnd (jP l d)))).map kI))),(4,.imm (.sl 28 (cs.map eiv))),(5,.imm (.int .i64 (k:Nat)))],[]⟩) (fun k=>k≤cs.length) (fun k=>cs.length - k) 0 (Nat.zero_le _) ((aC.frz 0 [kI 0] rfl rfl (ILe.refl _)).trans (qSL 0 rfl rfl)) ?_
 intro k hk
 have hho:=Nat.lt_or_ge k cs.length
 cases hho with
 |inl hlt=>
  obtain⟨d,hd⟩:∃d,cs[k]?=some d:=⟨cs[k],List.getElem?_eq_getElem hlt⟩
  have hst:=Oz (l:=l) hd
  have hOd:=hOf d
  have hRl:=hdl d
  have hpl:=(hbp k).length_le
  rw[show eiv d=IV.agg _ from rfl]at hOd
  generalize (cs.take k).flatMap (fun d=>bnd (jP l d))=F0 at *
  generalize jP l d=R at *
  have hmr:(R.map Pe.spv).length=R.length:=List.length_map _
  (try (conv=>whnf));(repeat ((first|refine qT ?_|refine qF ?_|refine qO ?_|(with_reducible intro z hz);(first|(replace hz:=hz (by omega);subst hz)|subst hz));(try (conv=>whnf))))
  refine Idx.mk k (eiv d) _ rfl (by simp[hd]) rfl ?_
  (try (conv=>whnf));(repeat ((first|refine qT ?_|refine qF ?_|refine qO ?_|(with_reducible intro z hz);(first|(replace hz:=hz (by omega);subst hz)|subst hz)|(refine ah.mk _ (hC _ _ _ (PCw.of hOd)) (fun js hjs=>?_);subst hjs));(try (conv=>whnf))))
  refine hLP _ _ _ Nat (fun j=>⟨[(0,.imm (.sl 4 (l.map gzv))),(3,.imm (.sl 1 ((ig (F0++bnd (R.take j))).map kI))),(4,.imm (.sl 28 (cs.map eiv))),(5,.imm (.int .i64 (k:Nat))),(6,.imm (.sl 2 (R.map Pe.spv))),(7,.imm (.int .i64 (j:Nat)))],[]⟩) (fun j=>j≤R.length) (fun j=>R.length - j) 0 (Nat.zero_le _) (by
   rw[show ig (F0++bnd (R.take 0))=ig F0 by simp[bnd]]
   exact (qSL 0 rfl rfl)) ?_
  intro j hj
  have hhj:=Nat.lt_or_ge j R.length
  cases hhj with
  |inl hjl=>
   obtain⟨s,hs⟩:∃s,R[j]?=some s:=⟨R[j],List.getElem?_eq_getElem hjl⟩
   have hbs:=DV hs
   have hb1:=rH (R.take j)
   rw[List.length_take]at hb1
   obtain⟨_,_,hil⟩:=vU (F0++bnd (R.take j)) [0] (by simp)
   rw[show (F0++bnd (R.take j)).foldl (fun o x=>iJ x o) [0]=ig (F0++bnd (R.take j)) from rfl,List.length_append]at hil
   have hnx:ig (F0++bnd (R.take (j+1)))=if s.2≤1048576 then iJ s.2 (iJ s.1 (ig (F0++bnd (R.take j)))) else iJ s.1 (ig (F0++bnd (R.take j))):=by
    rw[hbs]
    unfold yR
    split
    ·rw[show F0++(bnd (R.take j)++[s.1,s.2])=((F0++bnd (R.take j))++[s.1])++[s.2] by simp,sV,sV]
    ·rw[←List.append_assoc,sV]
   generalize ig (F0++bnd (R.take j))=out at *
   have hP1:=sH out s.1 (by simp only[List.length_singleton]at hil;omega)
   have hP2:=sH (iJ s.1 out) s.2 (by have:=EK s.1 out;simp only[List.length_singleton]at hil;omega)
   by_cases h2:s.2≤1048576
   ·rw[if_pos h2]at hnx
    (try (conv=>whnf));(repeat ((first|refine qT ?_|refine qF ?_|refine qO ?_|(with_reducible intro z hz);(first|(replace hz:=hz (by omega);subst hz)|subst hz));(try (conv=>whnf))))
    refine Idx.mk j (Pe.spv s) _ rfl (by simp[hs]) rfl ?_
    (try (conv=>whnf));(repeat ((first|refine qT ?_|refine qF ?_|refine qO ?_|(with_reducible intro z hz);(first|(replace hz:=hz (by omega);subst hz)|subst hz)|(refine ah.mk _ (hC _ _ _ (PCw.of hP1)) (fun js hjs=>?_);subst hjs));(try (conv=>whnf))))
    refine Idx.mk j (Pe.spv s) _ rfl (by simp[hs]) rfl ?_
    (try (conv=>whnf));(repeat ((first|refine qT ?_|refine qF ?_|refine qO ?_|(with_reducible intro z hz);(first|(replace hz:=hz (by omega);subst hz)|subst hz));(try (conv=>whnf))))
    refine Idx.mk j (Pe.spv s) _ rfl (by simp[hs]) rfl ?_
    (try (conv=>whnf));(repeat ((first|refine qT ?_|refine qF ?_|refine qO ?_|(with_reducible intro z hz);(first|(replace hz:=hz (by omega);subst hz)|subst hz)|(refine ah.mk _ (hC _ _ _ (PCw.of hP2)) (fun js hjs=>?_);subst hjs));(try (conv=>whnf))))
    exact⟨j+1,by omega,by dsimp only;omega,by
     dsimp only[]
     rw[hnx]
     exact (qSL 0 rfl rfl)⟩
   ·rw[if_neg h2]at hnx
    (try (conv=>whnf));(repeat ((first|refine qT ?_|refine qF ?_|refine qO ?_|(with_reducible intro z hz);(first|(replace hz:=hz (by omega);subst hz)|subst hz));(try (conv=>whnf))))
    refine Idx.mk j (Pe.spv s) _ rfl (by simp[hs]) rfl ?_
    (try (conv=>whnf));(repeat ((first|refine qT ?_|refine qF ?_|refine qO ?_|(with_reducible intro z hz);(first|(replace hz:=hz (by omega);subst hz)|subst hz)|(refine ah.mk _ (hC _ _ _ (PCw.of hP1)) (fun js hjs=>?_);subst hjs));(try (conv=>whnf))))
    refine Idx.mk j (Pe.spv s) _ rfl (by simp[hs]) rfl ?_
    (try (conv=>whnf));(repeat ((first|refine qT ?_|refine qF ?_|refine qO ?_|(with_reducible intro z hz);(first|(replace hz:=hz (by omega);subst hz)|subst hz));(try (conv=>whnf))))
    exact⟨j+1,by omega,by dsimp only;omega,by
     dsimp only[]
     rw[hnx]
     exact (qSL 0 rfl rfl)⟩
  |inr hjg=>
   obtain rfl:j=R.length:=by omega
   rw[List.take_length]
   (try (conv=>whnf));(repeat ((first|refine qT ?_|refine qF ?_|refine qO ?_|(with_reducible intro z hz);(first|(replace hz:=hz (by omega);subst hz)|subst hz));(try (conv=>whnf))))
   exact⟨k+1,by omega,by dsimp only;omega,by
    dsimp only[]
    rw[hst]
    exact (qSL 0 rfl rfl)⟩
 |inr hge=>
  obtain rfl:k=cs.length:=by omega
  rw[List.take_length]
  (try (conv=>whnf));(repeat ((first|refine qT ?_|refine qF ?_|refine qO ?_|(with_reducible intro z hz);(first|(replace hz:=hz (by omega);subst hz)|subst hz));(try (conv=>whnf))))
  exact hfin _ (aA.refl _)
theorem xK {l:List Gz} {m:Nat} (hm:m≤300) (h30:bO l m) (day:Int):PC Tryz.prog aM 22 [.int .i64 day,.sl 4 (l.map gzv)] [.int .i64 (jR (brk l) day)]:=by
 have hDy:=zM hm h30
 have hbl:=vk hm h30
 unfold jR
 generalize brk l=E at *
 have hme:(E.map kI).length=E.length:=List.length_map _
 by_cases h1:day < 0
 ·rw[if_pos (Or.inl h1)]
  refine PC.aj (T:=dZ) aS bB rfl mixed Tryz.func22 rfl rfl (Nat.le_of_ble_eq_true rfl) ?_;intro Γ C WK LP fin h0 hW hC hB hR hLP hfin
  have h00:Γ.n0=0:=h0
  (try (conv=>whnf));(repeat ((first|refine qT ?_|refine qF ?_|refine qO ?_|(with_reducible intro z hz);(first|(replace hz:=hz (by omega);subst hz)|subst hz));(try (conv=>whnf))))
  exact hfin _ (aA.refl _)
 by_cases h2:1048576 < day
 ·rw[if_pos (Or.inr h2)]
  refine PC.aj (T:=dZ) aS bB rfl mixed Tryz.func22 rfl rfl (Nat.le_of_ble_eq_true rfl) ?_;intro Γ C WK LP fin h0 hW hC hB hR hLP hfin
  have h00:Γ.n0=0:=h0
  (try (conv=>whnf));(repeat ((first|refine qT ?_|refine qF ?_|refine qO ?_|(with_reducible intro z hz);(first|(replace hz:=hz (by omega);subst hz)|subst hz));(try (conv=>whnf))))
  exact hfin _ (aA.refl _)
 rw[if_neg (by omega)]
 refine PC.aj (T:=dZ) aS bB rfl mixed Tryz.func22 rfl rfl (Nat.le_of_ble_eq_true rfl) ?_;intro Γ C WK LP fin h0 hW hC hB hR hLP hfin
 have h00:Γ.n0=0:=h0
 (try (conv=>whnf));(repeat ((first|refine qT ?_|refine qF ?_|refine qO ?_|(with_reducible intro z hz);(first|(replace hz:=hz (by omega);subst hz)|subst hz)|(refine ah.mk _ (hC _ _ _ (PCw.of hDy)) (fun js hjs=>?_);subst hjs));(try (conv=>whnf))))
 refine hLP _ _ _ Nat (fun k=>⟨[(0,.imm (.int .i64 day)),(5,.imm (.int .i64 (((E.take k).countP (fun x=>decide (x≤day)):Nat) - 1))),(6,.imm (.sl 1 (E.map kI))),(7,.imm (.int .i64 (k:Nat)))],[]⟩) (fun k=>k≤E.length) (fun k=>E.length - k) 0 (Nat.zero_le _) ((qSL 0 rfl rfl)) ?_
 intro k hk
 have hho:=Nat.lt_or_ge k E.length
 cases hho with
 |inl hlt=>
  obtain⟨x,hx⟩:∃x,E[k]?=some x:=⟨E[k],List.getElem?_eq_getElem hlt⟩
  have hst:(E.take (k+1)).countP (fun x=>decide (x≤day))=(E.take k).countP (fun x=>decide (x≤day))+if x≤day then 1 else 0:=by
   rw[take_at hx,List.countP_append,List.countP_singleton]
   by_cases h:x≤day<;>simp[h]
  have hcl:(E.take k).countP (fun x=>decide (x≤day))≤(E.take k).length:=List.countP_le_length
  rw[List.length_take]at hcl
  generalize (E.take k).countP (fun x=>decide (x≤day))=n at *
  by_cases hxd:x≤day
  ·rw[if_pos hxd]at hst
   (try (conv=>whnf));(repeat ((first|refine qT ?_|refine qF ?_|refine qO ?_|(with_reducible intro z hz);(first|(replace hz:=hz (by omega);subst hz)|subst hz));(try (conv=>whnf))))
   refine Idx.mk k (kI x) _ rfl (by simp[hx]) rfl ?_
   (try (conv=>whnf));(repeat ((first|refine qT ?_|refine qF ?_|refine qO ?_|(with_reducible intro z hz);(first|(replace hz:=hz (by omega);subst hz)|subst hz));(try (conv=>whnf))))
   exact⟨k+1,by omega,by dsimp only;omega,by
    dsimp only[]
    rw[hst]
    exact (qSL 0 rfl rfl)⟩
  ·rw[if_neg hxd]at hst
   (try (conv=>whnf));(repeat ((first|refine qT ?_|refine qF ?_|refine qO ?_|(with_reducible intro z hz);(first|(replace hz:=hz (by omega);subst hz)|subst hz));(try (conv=>whnf))))
   refine Idx.mk k (kI x) _ rfl (by simp[hx]) rfl ?_
   (try (conv=>whnf));(repeat ((first|refine qT ?_|refine qF ?_|refine qO ?_|(with_reducible intro z hz);(first|(replace hz:=hz (by omega);subst hz)|subst hz));(try (conv=>whnf))))
   exact⟨k+1,by omega,by dsimp only;omega,by
    dsimp only[]
    rw[hst]
    exact (qSL 0 rfl rfl)⟩
 |inr hge=>
  obtain rfl:k=E.length:=by omega
  rw[List.take_length]
  (try (conv=>whnf));(repeat ((first|refine qT ?_|refine qF ?_|refine qO ?_|(with_reducible intro z hz);(first|(replace hz:=hz (by omega);subst hz)|subst hz));(try (conv=>whnf))))
  exact hfin _ (aA.refl _)
end F
end Go.Proofs.YtfjibfdelbodjaaGreat.Po
namespace Go.Proofs.YtfjibfdelbodjaaGreat.Po
open Go Go.Pv Go.RowKit
set_option linter.unusedSimpArgs false
open Lab Lcs Go.Proofs.YtfjibfdelbodjaaGreat Go.Proofs.YtfjibfdelbodjaaGreat.Pu
set_option maxRecDepth 10000
set_option maxHeartbeats 32000000
namespace F
theorem Bz {α:Type} {p q:α→Bool}:∀{L:List α},(∀x∈L,p x=true→q x=true)→L.countP p=L.countP q→∀x∈L,q x=true→p x=true
 |[],_,_,x,hx,_=>by cases hx
 |y::L,hpq,hc,x,hx,hqx=>by
  have hle:L.countP p≤L.countP q:=List.countP_mono_left fun z hz hp=>hpq z (List.mem_cons_of_mem _ hz) hp
  rw[List.countP_cons,List.countP_cons]at hc
  have hy:=hpq y List.mem_cons_self
  have hL:L.countP p=L.countP q:=by
   by_cases h1:p y=true
   ·rw[if_pos h1,if_pos (hy h1)]at hc;omega
   ·rw[if_neg h1]at hc
    split at hc<;>omega
  rcases List.mem_cons.1 hx with rfl|hx
  ·by_cases h1:p x=true
   ·exact h1
   ·rw[if_neg h1,if_pos hqx]at hc;omega
  ·exact Bz (fun z hz=>hpq z (List.mem_cons_of_mem _ hz)) hL x hx hqx
theorem MV {α:Type} {p q:α→Bool}:∀{L:List α},(∀x∈L,p x=q x)→L.any p=L.any q
 |[],_=>rfl
 |x::L,h=>by rw[List.any_cons,List.any_cons,h x List.mem_cons_self,MV fun y hy=>h y (List.mem_cons_of_mem _ hy)]
theorem Nk {E:List Int} {a b:Int} (h:jR E a=jR E b) (h0:0≤jR E a):(0≤a∧a≤1048576)∧(0≤b∧b≤1048576)∧∀x∈E,x≤a↔x≤b:=by
 have ha:0≤a∧a≤1048576:=by
  unfold jR at h0
  split at h0<;>omega
 have hb:0≤b∧b≤1048576:=by
  rw[h]at h0
  unfold jR at h0
  split at h0<;>omega
 refine⟨ha,hb,?_⟩
 unfold jR at h
 rw[if_neg (by omega),if_neg (by omega)]at h
 have hc:E.countP (fun x=>decide (x≤a))=E.countP (fun x=>decide (x≤b)):=by omega
 intro x hx
 rcases Int.le_total a b with hab|hab
 ·have:=Bz (L:=E) (p:=fun x=>decide (x≤a)) (q:=fun x=>decide (x≤b)) (fun z _ hz=>decide_eq_true (by have:=of_decide_eq_true hz;omega)) hc x hx
  exact⟨fun h=>by omega,fun h=>of_decide_eq_true (this (decide_eq_true h))⟩
 ·have:=Bz (L:=E) (p:=fun x=>decide (x≤b)) (q:=fun x=>decide (x≤a)) (fun z _ hz=>decide_eq_true (by have:=of_decide_eq_true hz;omega)) hc.symm x hx
  exact⟨fun h=>of_decide_eq_true (this (decide_eq_true h)),fun h=>by omega⟩
theorem Sd {L:List Spans.Sp} {s:Spans.Sp} (h:s∈L):s.1∈bnd L∧(s.2≤1048576→s.2∈bnd L):=by
 unfold bnd
 refine⟨List.mem_flatMap.2 ⟨s,h,?_⟩,fun h2=>List.mem_flatMap.2 ⟨s,h,?_⟩⟩
 ·unfold yR;split<;>simp
 ·unfold yR;rw[if_pos h2];simp
theorem OZ (l:List Gz) (p:Str) {a b:Int} (h:jR (brk l) a=jR (brk l) b) (h0:0≤jR (brk l) a):onG l a p=onG l b p:=by
 obtain⟨ha,hb,hx⟩:=Nk h h0
 unfold onG onL
 refine List.filter_congr fun d hd=>?_
 unfold onB
 have hc:Rm.eU (cK (bn (allA l)) (aW l) d) a=Rm.eU (cK (bn (allA l)) (aW l) d) b:=by
  rw[mh (tJ _ _ _),mh (tJ _ _ _),Ip,Ip]
  refine MV fun s hs=>?_
  obtain⟨h1,h2⟩:=Sd hs
  have key:∀z,z∈bnd (cK (bn (allA l)) (aW l) d)→(z≤a↔z≤b):=fun z hz=>hx z ((JB l z).2 (List.mem_cons_of_mem _ (List.mem_flatMap.2 ⟨d,hd,hz⟩)))
  have k1:=key s.1 h1
  refine decide_eq_decide.2 ?_
  by_cases h3:s.2≤1048576
  ·have k2:=key s.2 (h2 h3)
   omega
  ·omega
 rw[hc]
theorem RZ (l:List Gz) (hF:Qy l) (a b:Int) (p:Str) (hp:p.size≤9223372036854775807):PC Tryz.prog aM 5 [.sl 4 (l.map gzv),.int .i64 a,.int .i64 b,.str p] [.bool true]:=by
 have hA:=IW
 have hFw:=Qw l hF
 cases hb:CJ l 30 with
 |false=>
  rw[hb]at hFw
  refine PC.aj (T:=dZ) aS bB rfl mixed Tryz.func5 rfl rfl (Nat.le_of_ble_eq_true rfl) ?_;intro Γ C WK LP fin h0 hW hC hB hR hLP hfin
  (try (conv=>whnf));(repeat ((first|refine qT ?_|refine qF ?_|refine qO ?_|(with_reducible intro z hz);(first|(replace hz:=hz (by omega);subst hz)|subst hz)|(refine ah.mk _ (hC _ _ _ (PCw.of hA)) (fun js hjs=>?_);subst hjs)|(refine ah.mk _ (hC _ _ _ (PCw.of hFw)) (fun js hjs=>?_);subst hjs));(try (conv=>whnf))))
  exact hfin _ (aA.refl _)
 |true=>
  rw[hb]at hFw
  have h30:=Rc (m:=30) (by omega) hF.2 hb
  by_cases hp1:p.size≤100
  rotate_left
  ·refine PC.aj (T:=dZ) aS bB rfl mixed Tryz.func5 rfl rfl (Nat.le_of_ble_eq_true rfl) ?_;intro Γ C WK LP fin h0 hW hC hB hR hLP hfin
   (try (conv=>whnf));(repeat ((first|refine qT ?_|refine qF ?_|refine qO ?_|(with_reducible intro z hz);(first|(replace hz:=hz (by omega);subst hz)|subst hz)|(refine ah.mk _ (hC _ _ _ (PCw.of hA)) (fun js hjs=>?_);subst hjs)|(refine ah.mk _ (hC _ _ _ (PCw.of hFw)) (fun js hjs=>?_);subst hjs));(try (conv=>whnf))))
   exact hfin _ (aA.refl _)
  have hIa:=tQ (by omega) h30 a
  have hIb:=tQ (by omega) h30 b
  have hCa:=xK (by omega) h30 a
  have hCb:=xK (by omega) h30 b
  have hBk:=II (by omega) h30
  have hDy:=zM (by omega) h30
  have hlen:=vk (by omega) h30
  have hIn:=Ji (brk l) (brk l) (by omega) (by omega)
  rw[decide_eq_true rfl]at hIn
  have hsd:=fun h h0=>OZ l p (a:=a) (b:=b) h h0
  have hOa:=Jv (by omega) h30 a p
  have hOb:=Jv (by omega) h30 b p
  have hol:=Qp h30 a p
  have hS:=Lr (onG l a p) (onG l a p) (by omega) (by omega) (Mj h30 a p) (Mj h30 a p)
  rw[decide_eq_true rfl]at hS
  generalize onG l a p=D at *
  generalize onG l b p=D2 at *
  generalize jR (brk l) a=x at *
  generalize jR (brk l) b=y at *
  generalize brk l=E at *
  by_cases hxy:x=y
  ·subst hxy
   by_cases hx0:x < 0
   ·refine PC.aj (T:=dZ) aS bB rfl mixed Tryz.func5 rfl rfl (Nat.le_of_ble_eq_true rfl) ?_;intro Γ C WK LP fin h0 hW hC hB hR hLP hfin
    have h00:Γ.n0=0:=h0
    (try (conv=>whnf));(repeat ((first|refine qT ?_|refine qF ?_|refine qO ?_|(with_reducible intro z hz);(first|(replace hz:=hz (by omega);subst hz)|subst hz)|(refine ah.mk _ (hC _ _ _ (PCw.of hA)) (fun js hjs=>?_);subst hjs)|(refine ah.mk _ (hC _ _ _ (PCw.of hFw)) (fun js hjs=>?_);subst hjs)|(refine ah.mk _ (hC _ _ _ (PCw.of hIa)) (fun js hjs=>?_);subst hjs)|(refine ah.mk _ (hC _ _ _ (PCw.of hIb)) (fun js hjs=>?_);subst hjs)|(refine ah.mk _ (hC _ _ _ (PCw.of hBk)) (fun js hjs=>?_);subst hjs)|(refine ah.mk _ (hC _ _ _ (PCw.of hDy)) (fun js hjs=>?_);subst hjs)|(refine ah.mk _ (hC _ _ _ (PCw.of hIn)) (fun js hjs=>?_);subst hjs)|(refine ah.mk _ (hC _ _ _ (PCw.of hCa)) (fun js hjs=>?_);subst hjs)|(refine ah.mk _ (hC _ _ _ (PCw.of hCb)) (fun js hjs=>?_);subst hjs));(try (conv=>whnf))))
    exact hfin _ (aA.refl _)
   ·obtain rfl:=hsd rfl (by omega)
    refine PC.aj (T:=dZ) aS bB rfl mixed Tryz.func5 rfl rfl (Nat.le_of_ble_eq_true rfl) ?_;intro Γ C WK LP fin h0 hW hC hB hR hLP hfin
    have h00:Γ.n0=0:=h0
    (try (conv=>whnf));(repeat ((first|refine qT ?_|refine qF ?_|refine qO ?_|(with_reducible intro z hz);(first|(replace hz:=hz (by omega);subst hz)|subst hz)|(refine ah.mk _ (hC _ _ _ (PCw.of hA)) (fun js hjs=>?_);subst hjs)|(refine ah.mk _ (hC _ _ _ (PCw.of hFw)) (fun js hjs=>?_);subst hjs)|(refine ah.mk _ (hC _ _ _ (PCw.of hIa)) (fun js hjs=>?_);subst hjs)|(refine ah.mk _ (hC _ _ _ (PCw.of hIb)) (fun js hjs=>?_);subst hjs)|(refine ah.mk _ (hC _ _ _ (PCw.of hBk)) (fun js hjs=>?_);subst hjs)|(refine ah.mk _ (hC _ _ _ (PCw.of hDy)) (fun js hjs=>?_);subst hjs)|(refine ah.mk _ (hC _ _ _ (PCw.of hIn)) (fun js hjs=>?_);subst hjs)|(refine ah.mk _ (hC _ _ _ (PCw.of hCa)) (fun js hjs=>?_);subst hjs)|(refine ah.mk _ (hC _ _ _ (PCw.of hCb)) (fun js hjs=>?_);subst hjs)|(refine ah.mk _ (hC _ _ _ (PCw.of hOa)) (fun js hjs=>?_);subst hjs)|(refine ah.mk _ (hC _ _ _ (PCw.of hOb)) (fun js hjs=>?_);subst hjs)|(refine ah.mk _ (hC _ _ _ (PCw.of hS)) (fun js hjs=>?_);subst hjs));(try (conv=>whnf))))
    exact hfin _ (aA.refl _)
  ·refine PC.aj (T:=dZ) aS bB rfl mixed Tryz.func5 rfl rfl (Nat.le_of_ble_eq_true rfl) ?_;intro Γ C WK LP fin h0 hW hC hB hR hLP hfin
   have h00:Γ.n0=0:=h0
   (try (conv=>whnf));(repeat ((first|refine qT ?_|refine qF ?_|refine qO ?_|(with_reducible intro z hz);(first|(replace hz:=hz (by omega);subst hz)|subst hz)|(refine ah.mk _ (hC _ _ _ (PCw.of hA)) (fun js hjs=>?_);subst hjs)|(refine ah.mk _ (hC _ _ _ (PCw.of hFw)) (fun js hjs=>?_);subst hjs)|(refine ah.mk _ (hC _ _ _ (PCw.of hIa)) (fun js hjs=>?_);subst hjs)|(refine ah.mk _ (hC _ _ _ (PCw.of hIb)) (fun js hjs=>?_);subst hjs)|(refine ah.mk _ (hC _ _ _ (PCw.of hBk)) (fun js hjs=>?_);subst hjs)|(refine ah.mk _ (hC _ _ _ (PCw.of hDy)) (fun js hjs=>?_);subst hjs)|(refine ah.mk _ (hC _ _ _ (PCw.of hIn)) (fun js hjs=>?_);subst hjs)|(refine ah.mk _ (hC _ _ _ (PCw.of hCa)) (fun js hjs=>?_);subst hjs)|(refine ah.mk _ (hC _ _ _ (PCw.of hCb)) (fun js hjs=>?_);subst hjs));(try (conv=>whnf))))
   exact hfin _ (aA.refl _)
theorem Tq (l:List Gz) (hF:Qy l) (a b:Int) (p:Str) (hp:p.size≤maxLen):PC Tryz.prog aM 5 [.sl 4 (l.map gzv),.int .i64 a,.int .i64 b,.str p] [.bool true]:=RZ l hF a b p (by unfold maxLen at hp;omega)
end F
end Go.Proofs.YtfjibfdelbodjaaGreat.Po
