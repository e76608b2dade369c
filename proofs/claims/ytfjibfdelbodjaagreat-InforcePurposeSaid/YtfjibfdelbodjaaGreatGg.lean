/-
  Corpus: since when an item is known, by the reference. Corpus: the law of finds. Corpus: the acts in legal order, by the program.
-/
import Derived.Test.YtfjibfdelbodjaaGreatGe
namespace Go.Proofs.YtfjibfdelbodjaaGreat.Po
open Go Go.Pv Go.RowKit
set_option linter.unusedSimpArgs false
open Lab Lcs Go.Proofs.YtfjibfdelbodjaaGreat Go.Proofs.YtfjibfdelbodjaaGreat.Pu
set_option maxRecDepth 10000
set_option maxHeartbeats 32000000
theorem bH.RF {l:List Gz} {m:Nat} (hm:m≤1000) (h:bH l m) (n i:Int):PC Tryz.prog aM 36 [.int .i64 n,.int .i64 i,.sl 4 (l.map gzv)] [RV (gV (Po.aP l) n i),.bool (gV (Po.aP l) n i).isSome]:=
 Ip (Po.aP l) [.sl 4 (l.map gzv)] n i (by have:=h.dI;omega) (h.aP hm) rfl
end Go.Proofs.YtfjibfdelbodjaaGreat.Po
namespace Go.Proofs.YtfjibfdelbodjaaGreat.Po
open Go Go.Pv Go.RowKit
set_option linter.unusedSimpArgs false
open Lab Lcs Go.Proofs.YtfjibfdelbodjaaGreat Go.Proofs.YtfjibfdelbodjaaGreat.Pu
set_option maxRecDepth 10000
set_option maxHeartbeats 32000000
end Go.Proofs.YtfjibfdelbodjaaGreat.Po
namespace Go.Proofs.YtfjibfdelbodjaaGreat.Po
open Go Go.Pv Go.RowKit
set_option linter.unusedSimpArgs false
open Lab Lcs Go.Proofs.YtfjibfdelbodjaaGreat Go.Proofs.YtfjibfdelbodjaaGreat.Pu
open Go.Sort (SWO)
open Go.Proofs (ltOf)
set_option maxRecDepth 10000
set_option maxHeartbeats 32000000
def yF (a b:Ac):Int:=if dW a.day b.day≠0 then dW a.day b.day else if dW a.num b.num≠0 then dW a.num b.num else dW 0 0
def enZ (n d:Int):En:=⟨n,0,d,⟨0,fun k=>([.nil,.nil,.nil,.int .i64 0,.int .i64 0,.int .i64 0,.int .i64 0,.int .i64 0,.int .i64 0,.str ⟨#[]⟩,.nil,.nil,.nil,.nil,.nil,.str ⟨#[]⟩,.str ⟨#[]⟩]:List IV).getD k .nil,⟨0,0,z0⟩,0,0,0,z0,.nil⟩⟩
theorem EW (a b:Ac):PC Tryz.prog aM 80 [.agg [.int .i64 a.num,.int .i64 0,.int .i64 a.day,.int .i64 0,.nil,.nil,.int .i64 0,.int .i64 0,.int .i64 0,.int .i64 0,.int .i64 0,.int .i64 0,.str ⟨#[]⟩,.nil,.nil,.nil,.nil,.nil,.str ⟨#[]⟩,.str ⟨#[]⟩,.int .i64 0,.int .i64 0,.str ⟨#[]⟩,.int .i64 0,.int .i64 0,.int .i64 0,.str ⟨#[]⟩,.nil],.agg [.int .i64 b.num,.int .i64 0,.int .i64 b.day,.int .i64 0,.nil,.nil,.int .i64 0,.int .i64 0,.int .i64 0,.int .i64 0,.int .i64 0,.int .i64 0,.str ⟨#[]⟩,.nil,.nil,.nil,.nil,.nil,.str ⟨#[]⟩,.str ⟨#[]⟩,.int .i64 0,.int .i64 0,.str ⟨#[]⟩,.int .i64 0,.int .i64 0,.int .i64 0,.str ⟨#[]⟩,.nil]] [.int .i64 (yF a b)]:=xP (enZ a.num a.day) (enZ b.num b.day)
theorem NT (a b:Ac):PC Tryz.prog aM 83 [acv a,acv b] [.int .i64 (yF a b)]:=by
 have hC1:=EW a b
 generalize yF a b=z at *
 unfold acv
 refine PC.ak (T:=MI) aB kP rfl mixed Tryz.func83 rfl rfl (Nat.le_of_ble_eq_true rfl) ?_;intro Γ C WK LP fin h0 hW hC hB hR hLP hfin
 (try (conv=>whnf));(repeat ((first|refine qT ?_|refine qF ?_|refine qO ?_|(with_reducible intro z hz);(first|(replace hz:=hz (by omega);subst hz)|subst hz)|(refine ah.mk _ (hC _ _ _ (PCw.of hC1)) (fun js hjs=>?_);subst hjs));(try (conv=>whnf))))
 exact hfin _ (ay.refl _)
theorem Q8 {a b:Ac}:yF a b < 0↔ltA a b:=by
 unfold yF ltA
 have h1:=@jk a.day b.day
 have h2:=@jk a.num b.num
 have h3:=@jk 0 0
 have h4:=@gY a.day b.day
 have h5:=@gY a.num b.num
 split
 ·rename_i h;rw[h1];have:¬a.day=b.day:=fun e=>h (h4.2 e);omega
 ·rename_i h
  have e1:a.day=b.day:=h4.1 (by omega)
  split
  ·rename_i g;rw[h2];have:¬a.num=b.num:=fun e=>g (h5.2 e);omega
  ·rename_i g
   have e2:a.num=b.num:=h5.1 (by omega)
   rw[h3];omega
theorem Gf {a b:Ac}:ltOf yF a b=true↔ltA a b:=by unfold ltOf;rw[decide_eq_true_iff,Q8]
theorem BS {a b:Ac}:ltOf yF a b=false↔¬ltA a b:=by rw[←Gf];simp
theorem UG:SWO (ltOf yF) where
 irrefl x:=by rw[BS];unfold ltA;omega
 trans x y z h1 h2:=by rw[Gf]at *;unfold ltA at *;omega
 ntrans x y z h1 h2:=by rw[BS]at *;unfold ltA at *;omega
theorem vZ:∀{l l':List Ac},l'.Perm l→l.Pairwise ltA→l'.Pairwise (fun a b=>ltOf yF b a=false)→l'=l
 |[],l',hp,_,_=>List.Perm.eq_nil hp
 |a::l,[],hp,_,_=>by have:=hp.length_eq;simp at this
 |a::l,b::l',hp,hs,hs'=>by
  have hab:b=a:=by
   rw[List.pairwise_cons]at hs hs'
   rcases List.mem_cons.1 (hp.subset List.mem_cons_self) with h|h
   ·exact h
   ·have h1:=hs.1 b h
    rcases List.mem_cons.1 (hp.symm.subset List.mem_cons_self) with h2|h2
    ·rw[h2]
    ·have:=hs'.1 a h2
     rw[BS]at this
     exact absurd h1 this
  subst hab
  rw[List.pairwise_cons]at hs hs'
  rw[vZ hp.cons_inv hs.2 hs'.2]
theorem UC:∀w,(isAgg 70).run Tryz.prog w=.ok true w:=fun _=>by kernel_rfl
theorem Un:∀w,(Go.sizeOf 70).run Tryz.prog w=.ok 7 w:=fun _=>by kernel_rfl
theorem Jh (L S:List Ac) (hL:L.length≤1000000000) (hS:∀l':List Ac,l'.Perm L→l'.Pairwise (fun a b=>ltOf yF b a=false)→l'.map acv=S.map acv) :
  PCB Tryz.prog aM 82 [.row 0 1,.imm (.fn 83)] [.row 70 7 1 ((L.map acv).map .imm)] [] [.row 70 7 1 ((S.map acv).map .imm)]:=
 zk acv (by decide) (fun x=>⟨_,rfl⟩) yF UG (enters_of Tryz.func82 rfl rfl)
  (fun α _ enc hk h1 cfa hO blk cap d w hcmp hH hb hd=>by
   have hcon:=Go.Proofs.AnyQ.slices_SortFunc Tryz.sortAc 7 UC Un enc hk h1 cfa hO 83 #[] blk 0 cap d w (enters_of Tryz.func83 rfl rfl) hcmp hH hb hd
   change Calls Tryz.prog 82 _ _ _ at hcon
   exact hcon)
  (fun p cap w=>by
   have hcon:=Go.Proofs.AnyF.slices_SortFunc_none (P:=Tryz.prog) (ρ:=Tryz.sortAc_ren) { Tryz.sortAc with } p cap (.func (.func 83) #[] #[]) w
   change Calls Tryz.prog 82 _ _ _ at hcon
   exact hcon)
  L S (by unfold most;exact hL) (fun x _ y _=>NT x y) hS
theorem PS (l:List Gz) (hl:l.length≤1000000) (hG:∀g∈l,SmG g) (hF:∀g∈l,∀a∈g.acts,y9 a) (hn:(lC l).acts.length≤1000000) :
  PC Tryz.prog aM 60 [.sl 4 (l.map gzv)] [.sl 7 ((bn (allA l)).map acv)]:=by
 have hRg:=zx l hl hG
 have hgood:=lN hF
 have hperm0:((lC l).acts.map Prod.snd).Perm (bn (allA l)):=by
  rw[mK]
  have:=eH (allA l) (allA l).length (Nat.le_refl _)
  unfold rgK at this
  rw[List.take_length]at this
  exact this.symm
 have hsort:=gL (allA l) (allA l).length (Nat.le_refl _)
 rw[show bW (allA l) (allA l).length=bn (allA l) from rfl]at hsort
 generalize bn (allA l)=S at *
 generalize lC l=r at *
 refine PC.ak (T:=(Ta fun r=>Nat.beq r 2)) aB kP rfl mixed Tryz.func60 rfl rfl (Nat.le_of_ble_eq_true rfl) ?_;intro Γ C WK LP fin h0 hW hC hB hR hLP hfin
 have h03:Γ.n0=0:=h0
 (try (conv=>whnf));(repeat ((first|refine qT ?_|refine qF ?_|refine qO ?_|(with_reducible intro z hz);(first|(replace hz:=hz (by omega);subst hz)|subst hz));(try (conv=>whnf))))
 refine hW _ _ _ (aA.spare.trans aA.spare) ?_
 (try (conv=>whnf));(repeat ((first|refine qT ?_|refine qF ?_|refine qO ?_|(with_reducible intro z hz);(first|(replace hz:=hz (by omega);subst hz)|subst hz));(try (conv=>whnf))))
 refine bG.mk ([.agg [.row 0 2,.row 1 2,.row 2 2]]) ([.map (.int .i64) 2 (mkL kI acv r.acts),.map (.int .i64) 2 (mkL kI IV.bool r.jm),.map kkC 2 (mkL kv2 eiv r.cors)]) (hB _ _ _ _ _ (hRg)) ?_
 (try (conv=>whnf));(repeat ((first|refine qT ?_|refine qF ?_|refine qO ?_|(with_reducible intro z hz);(first|(replace hz:=hz (by omega);subst hz)|subst hz));(try (conv=>whnf))))
 refine hLP _ _ _ (Bool×(Int×Ac)×AcM×List Ac) (fun p=>⟨[(3,.row 4 1),(9,.ptr 3 1 0)],[.map (.int .i64) 78 (mkL kI IV.bool r.jm),.map kkC 78 (mkL kv2 eiv r.cors),.dead 1,.map (.iter p.1) 1 (OP kI acv p.1 p.2.1 p.2.2.1),.row 70 7 1 ((p.2.2.2.map acv).map .imm)]⟩) (fun p=>(p.2.2.2++p.2.2.1.map Prod.snd).Perm S∧(∀q∈p.2.2.1,y9 q.2)) (fun p=>p.2.2.1.length) (false,(0,⟨0,z0,0,0,0,z0,[]⟩),r.acts,[]) ⟨by simpa using hperm0,fun q hq=>hgood.ok q hq⟩ ((aA.lX 3 70 7 (Nat.le_of_ble_eq_true rfl) rfl).trans ((aA.row 4 (((([]:List Ac).map acv).map .imm)) rfl (by rfl)).trans (qSL 5 rfl rfl))) ?_
 rintro⟨f,q,R,out⟩ ⟨hperm,hfit⟩
 dsimp only at hperm hfit ⊢
 have hle:=z8 (kv:=kI) (vv:=acv) f q R
 have hlen:=hperm.length_eq
 have hlen0:=hperm0.length_eq
 rw[List.length_append,List.length_map]at hlen
 rw[List.length_map]at hlen0
 have hol:((out.map acv).map PV.imm).length=out.length:=by simp
 (try (conv=>whnf));(repeat ((first|refine qT ?_|refine qF ?_|refine qO ?_|(with_reducible intro z hz);(first|(replace hz:=hz (by omega);subst hz)|subst hz));(try (conv=>whnf))))
 refine NxK.mk (fun h0=>?_) (fun i p hp=>?_)
 ·rw[hle]at h0
  obtain rfl:=D7 h0
  have hS:=Jh out S (by omega) (fun l' hp' hs'=>by rw[vZ (hp'.trans (by simpa using hperm)) hsort hs'])
  (try (conv=>whnf));(repeat ((first|refine qT ?_|refine qF ?_|refine qO ?_|(with_reducible intro z hz);(first|(replace hz:=hz (by omega);subst hz)|subst hz));(try (conv=>whnf))))
  refine bK.mk (out.map acv) rfl ?_
  (try (conv=>whnf));(repeat ((first|refine qT ?_|refine qF ?_|refine qO ?_|(with_reducible intro z hz);(first|(replace hz:=hz (by omega);subst hz)|subst hz));(try (conv=>whnf))))
  refine bG.mk ([]) ([.row 70 7 1 (S.map acv)]) (hB _ _ _ _ _ (hS)) ?_
  (try (conv=>whnf));(repeat ((first|refine qT ?_|refine qF ?_|refine qO ?_|(with_reducible intro z hz);(first|(replace hz:=hz (by omega);subst hz)|subst hz));(try (conv=>whnf))))
  refine bK.mk (S.map acv) rfl ?_
  (try (conv=>whnf));(repeat ((first|refine qT ?_|refine qF ?_|refine qO ?_|(with_reducible intro z hz);(first|(replace hz:=hz (by omega);subst hz)|subst hz));(try (conv=>whnf))))
  exact hfin _ (ay.refl _)
 ·rw[hle]at hp
  obtain⟨p,hq,rfl⟩:=Ny hp
  have hpe:=nY hq
  have hlt:=hpe.length_eq
  have hpf:=hfit p (List.mem_of_getElem? hq)
  have hCo:=LQ p.2 hpf.1 hpf.2
  unfold acv at hCo
  rw[List.length_cons]at hlt
  have hkp:∀y∈R.eraseIdx i,y9 y.2:=fun y hy=>hfit y (hpe.subset (List.mem_cons_of_mem _ hy))
  (try (conv=>whnf));(repeat ((first|refine qT ?_|refine qF ?_|refine qO ?_|(with_reducible intro z hz);(first|(replace hz:=hz (by omega);subst hz)|subst hz)|(refine ah.mk _ (hC _ _ _ (PCw.of hCo)) (fun js hjs=>?_);subst hjs));(try (conv=>whnf))))
  exact⟨(true,p,R.eraseIdx i,out++[p.2]),⟨by
   dsimp only
   rw[List.append_assoc]
   exact (((hpe.map Prod.snd).append_left out).trans hperm),hkp⟩,by dsimp only;omega,by
   dsimp only
   exact ((aA.row 4 ((((out++[p.2]).map acv).map .imm)) rfl (by simp[acv])).trans ((aA.rF 3 ((OP kI acv true p (R.eraseIdx i))) rfl (by rw[hle,tZ];rfl)).trans ((aA.renew 4 1 rfl (by first|omega|(intro _;rw[hk0 _ _ rfl];exact Nat.le_of_ble_eq_true rfl)) (by repeat (first|exact trivial|refine And.intro (aY _ _ _ _) ?_|refine And.intro rfl ?_))).trans (qSL 5 rfl rfl))))⟩
end Go.Proofs.YtfjibfdelbodjaaGreat.Po
