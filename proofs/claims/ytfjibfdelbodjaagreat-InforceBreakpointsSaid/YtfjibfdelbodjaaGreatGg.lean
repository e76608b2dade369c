/-
  Corpus: since when an item is known, by the reference. Corpus: the law of finds. Corpus: the acts in legal order, by the program.
-/
import Derived.Test.YtfjibfdelbodjaaGreatGe
namespace Go.Proofs.YtfjibfdelbodjaaGreat.Po
open Go Go.Pv Go.RowKit
set_option linter.unusedSimpArgs false
open Lab Lcs Go.Proofs.YtfjibfdelbodjaaGreat Go.Proofs.YtfjibfdelbodjaaGreat.Pu
set_option maxRecDepth 10000
set_option maxHeartbeats 32000000
end Go.Proofs.YtfjibfdelbodjaaGreat.Po
namespace Go.Proofs.YtfjibfdelbodjaaGreat.Po
open Go Go.Pv Go.RowKit
set_option linter.unusedSimpArgs false
open Lab Lcs Go.Proofs.YtfjibfdelbodjaaGreat Go.Proofs.YtfjibfdelbodjaaGreat.Pu
set_option maxRecDepth 10000
set_option maxHeartbeats 32000000
end Go.Proofs.YtfjibfdelbodjaaGreat.Po
namespace Go.Proofs.YtfjibfdelbodjaaGreat.Po
open Go Go.Pv Go.RowKit
set_option linter.unusedSimpArgs false
open Lab Lcs Go.Proofs.YtfjibfdelbodjaaGreat Go.Proofs.YtfjibfdelbodjaaGreat.Pu
open Go.Sort (SWO)
open Go.Proofs (ltOf)
set_option maxRecDepth 10000
set_option maxHeartbeats 32000000
def xO (a b:Ac):Int:=if fV a.day b.day≠0 then fV a.day b.day else if fV a.num b.num≠0 then fV a.num b.num else fV 0 0
def enZ (n d:Int):En:=⟨n,0,d,⟨0,fun k=>([.nil,.nil,.nil,.int .i64 0,.int .i64 0,.int .i64 0,.int .i64 0,.int .i64 0,.int .i64 0,.str ⟨#[]⟩,.nil,.nil,.nil,.nil,.nil,.str ⟨#[]⟩,.str ⟨#[]⟩]:List IV).getD k .nil,⟨0,0,z0⟩,0,0,0,z0,.nil⟩⟩
theorem Gf (a b:Ac):PC Tryz.prog aM 80 [.agg [.int .i64 a.num,.int .i64 0,.int .i64 a.day,.int .i64 0,.nil,.nil,.int .i64 0,.int .i64 0,.int .i64 0,.int .i64 0,.int .i64 0,.int .i64 0,.str ⟨#[]⟩,.nil,.nil,.nil,.nil,.nil,.str ⟨#[]⟩,.str ⟨#[]⟩,.int .i64 0,.int .i64 0,.str ⟨#[]⟩,.int .i64 0,.int .i64 0,.int .i64 0,.str ⟨#[]⟩,.nil],.agg [.int .i64 b.num,.int .i64 0,.int .i64 b.day,.int .i64 0,.nil,.nil,.int .i64 0,.int .i64 0,.int .i64 0,.int .i64 0,.int .i64 0,.int .i64 0,.str ⟨#[]⟩,.nil,.nil,.nil,.nil,.nil,.str ⟨#[]⟩,.str ⟨#[]⟩,.int .i64 0,.int .i64 0,.str ⟨#[]⟩,.int .i64 0,.int .i64 0,.int .i64 0,.str ⟨#[]⟩,.nil]] [.int .i64 (xO a b)]:=vL (enZ a.num a.day) (enZ b.num b.day)
theorem OU (a b:Ac):PC Tryz.prog aM 83 [acv a,acv b] [.int .i64 (xO a b)]:=by
 have hC1:=Gf a b
 generalize xO a b=z at *
 unfold acv
 refine PC.aj (T:=MG) ay l8 rfl mixed Tryz.func83 rfl rfl (Nat.le_of_ble_eq_true rfl) ?_;intro Γ C WK LP fin h0 hW hC hB hR hLP hfin
 (try (conv=>whnf));(repeat ((first|refine qT ?_|refine qF ?_|refine qO ?_|(with_reducible intro z hz);(first|(replace hz:=hz (by omega);subst hz)|subst hz)|(refine ah.mk _ (hC _ _ _ (PCw.of hC1)) (fun js hjs=>?_);subst hjs));(try (conv=>whnf))))
 exact hfin _ (aA.refl _)
theorem QZ {a b:Ac}:xO a b < 0↔ltA a b:=by
 unfold xO ltA
 have h1:=@jc a.day b.day
 have h2:=@jc a.num b.num
 have h3:=@jc 0 0
 have h4:=@gW a.day b.day
 have h5:=@gW a.num b.num
 split
 ·rename_i h;rw[h1];have:¬a.day=b.day:=fun e=>h (h4.2 e);omega
 ·rename_i h
  have e1:a.day=b.day:=h4.1 (by omega)
  split
  ·rename_i g;rw[h2];have:¬a.num=b.num:=fun e=>g (h5.2 e);omega
  ·rename_i g
   have e2:a.num=b.num:=h5.1 (by omega)
   rw[h3];omega
theorem FD {a b:Ac}:ltOf xO a b=true↔ltA a b:=by unfold ltOf;rw[decide_eq_true_iff,QZ]
theorem CP {a b:Ac}:ltOf xO a b=false↔¬ltA a b:=by rw[←FD];simp
theorem TM:SWO (ltOf xO) where
 irrefl x:=by rw[CP];unfold ltA;omega
 trans x y z h1 h2:=by rw[FD]at *;unfold ltA at *;omega
 ntrans x y z h1 h2:=by rw[CP]at *;unfold ltA at *;omega
theorem xg:∀{l l':List Ac},l'.Perm l→l.Pairwise ltA→l'.Pairwise (fun a b=>ltOf xO b a=false)→l'=l
 |[],l',hp,_,_=>List.Perm.eq_nil hp
 |a::l,[],hp,_,_=>by have:=hp.length_eq;simp at this
 |a::l,b::l',hp,hs,hs'=>by
  have hab:b=a:=by
   rw[List.pairwise_cons]at hs hs'
   rcases List.mem_cons.1 (hp.subset List.mem_cons_self) with h|h
   ·exact h
   ·have h1:=hs.1 b h
    rcases List.mem_cons.1 (hp.symm.subset List.mem_cons_self) with h2|h2
    ·rw[h2]
    ·have:=hs'.1 a h2
     rw[CP]at this
     exact absurd h1 this
  subst hab
  rw[List.pairwise_cons]at hs hs'
  rw[xg hp.cons_inv hs.2 hs'.2]
theorem TG:∀w,(isAgg 70).run Tryz.prog w=.ok true w:=fun _=>by kernel_rfl
theorem Tv:∀w,(Go.sizeOf 70).run Tryz.prog w=.ok 7 w:=fun _=>by kernel_rfl
theorem Gp (L S:List Ac) (hL:L.length≤1000000000) (hS:∀l':List Ac,l'.Perm L→l'.Pairwise (fun a b=>ltOf xO b a=false)→l'.map acv=S.map acv) :
  PCB Tryz.prog aM 82 [.row 0 1,.imm (.fn 83)] [.row 70 7 1 ((L.map acv).map .imm)] [] [.row 70 7 1 ((S.map acv).map .imm)]:=
 AJ acv (by decide) (fun x=>⟨_,rfl⟩) xO TM (enters_of Tryz.func82 rfl rfl)
  (fun α _ enc hk h1 cfa hO blk cap d w hcmp hH hb hd=>by
   have hcon:=Go.Proofs.AnyQ.slices_SortFunc Tryz.sortAc 7 TG Tv enc hk h1 cfa hO 83 #[] blk 0 cap d w (enters_of Tryz.func83 rfl rfl) hcmp hH hb hd
   change Calls Tryz.prog 82 _ _ _ at hcon
   exact hcon)
  (fun p cap w=>by
   have hcon:=Go.Proofs.AnyF.slices_SortFunc_none (P:=Tryz.prog) (ρ:=Tryz.sortAc_ren) { Tryz.sortAc with } p cap (.func (.func 83) #[] #[]) w
   change Calls Tryz.prog 82 _ _ _ at hcon
   exact hcon)
  L S (by unfold most;exact hL) (fun x _ y _=>OU x y) hS
theorem LZ (l:List Gz) (hl:l.length≤1000000) (hG:∀g∈l,SmG g) (hF:∀g∈l,∀a∈g.acts,yM a) (hn:(lG l).acts.length≤1000000) :
  PC Tryz.prog aM 60 [.sl 4 (l.map gzv)] [.sl 7 ((bn (allA l)).map acv)]:=by
 have hRg:=zD l hl hG
 have hgood:=nT hF
 have hperm0:((lG l).acts.map Prod.snd).Perm (bn (allA l)):=by
  rw[nH]
  have:=eB (allA l) (allA l).length (Nat.le_refl _)
  unfold rgK at this
  rw[List.take_length]at this
  exact this.symm
 have hsort:=jd (allA l) (allA l).length (Nat.le_refl _)
 rw[show bX (allA l) (allA l).length=bn (allA l) from rfl]at hsort
 generalize bn (allA l)=S at *
 generalize lG l=r at *
 refine PC.aj (T:=(SE fun r=>Nat.beq r 2)) ay l8 rfl mixed Tryz.func60 rfl rfl (Nat.le_of_ble_eq_true rfl) ?_;intro Γ C WK LP fin h0 hW hC hB hR hLP hfin
 have h03:Γ.n0=0:=h0
 (try (conv=>whnf));(repeat ((first|refine qT ?_|refine qF ?_|refine qO ?_|(with_reducible intro z hz);(first|(replace hz:=hz (by omega);subst hz)|subst hz));(try (conv=>whnf))))
 refine hW _ _ _ (aC.spare.trans aC.spare) ?_
 (try (conv=>whnf));(repeat ((first|refine qT ?_|refine qF ?_|refine qO ?_|(with_reducible intro z hz);(first|(replace hz:=hz (by omega);subst hz)|subst hz));(try (conv=>whnf))))
 refine bV.mk ([.agg [.row 0 2,.row 1 2,.row 2 2]]) ([.map (.int .i64) 2 (mkL kI acv r.acts),.map (.int .i64) 2 (mkL kI IV.bool r.jf),.map kkC 2 (mkL kv2 eiv r.cors)]) (hB _ _ _ _ _ (hRg)) ?_
 (try (conv=>whnf));(repeat ((first|refine qT ?_|refine qF ?_|refine qO ?_|(with_reducible intro z hz);(first|(replace hz:=hz (by omega);subst hz)|subst hz));(try (conv=>whnf))))
 refine hLP _ _ _ (Bool×(Int×Ac)×AcM×List Ac) (fun p=>⟨[(3,.row 4 1),(9,.ptr 3 1 0)],[.map (.int .i64) 78 (mkL kI IV.bool r.jf),.map kkC 78 (mkL kv2 eiv r.cors),.dead 1,.map (.iter p.1) 1 (MP kI acv p.1 p.2.1 p.2.2.1),.row 70 7 1 ((p.2.2.2.map acv).map .imm)]⟩) (fun p=>(p.2.2.2++p.2.2.1.map Prod.snd).Perm S∧(∀q∈p.2.2.1,yM q.2)) (fun p=>p.2.2.1.length) (false,(0,⟨0,z0,0,0,0,z0,[]⟩),r.acts,[]) ⟨by simpa using hperm0,fun q hq=>hgood.ok q hq⟩ ((aC.lZ 3 70 7 (Nat.le_of_ble_eq_true rfl) rfl).trans ((aC.row 4 (((([]:List Ac).map acv).map .imm)) rfl (by rfl)).trans (qSL 5 rfl rfl))) ?_
 rintro⟨f,q,R,out⟩ ⟨hperm,hfit⟩
 dsimp only at hperm hfit ⊢
 have hle:=yX (kv:=kI) (vv:=acv) f q R
 have hlen:=hperm.length_eq
 have hlen0:=hperm0.length_eq
 rw[List.length_append,List.length_map]at hlen
 rw[List.length_map]at hlen0
 have hol:((out.map acv).map PV.imm).length=out.length:=by simp
 (try (conv=>whnf));(repeat ((first|refine qT ?_|refine qF ?_|refine qO ?_|(with_reducible intro z hz);(first|(replace hz:=hz (by omega);subst hz)|subst hz));(try (conv=>whnf))))
 refine NxK.mk (fun h0=>?_) (fun i p hp=>?_)
 ·rw[hle]at h0
  obtain rfl:=Ed h0
  have hS:=Gp out S (by omega) (fun l' hp' hs'=>by rw[xg (hp'.trans (by simpa using hperm)) hsort hs'])
  (try (conv=>whnf));(repeat ((first|refine qT ?_|refine qF ?_|refine qO ?_|(with_reducible intro z hz);(first|(replace hz:=hz (by omega);subst hz)|subst hz));(try (conv=>whnf))))
  refine bN.mk (out.map acv) rfl ?_
  (try (conv=>whnf));(repeat ((first|refine qT ?_|refine qF ?_|refine qO ?_|(with_reducible intro z hz);(first|(replace hz:=hz (by omega);subst hz)|subst hz));(try (conv=>whnf))))
  refine bV.mk ([]) ([.row 70 7 1 (S.map acv)]) (hB _ _ _ _ _ (hS)) ?_
  (try (conv=>whnf));(repeat ((first|refine qT ?_|refine qF ?_|refine qO ?_|(with_reducible intro z hz);(first|(replace hz:=hz (by omega);subst hz)|subst hz));(try (conv=>whnf))))
  refine bN.mk (S.map acv) rfl ?_
  (try (conv=>whnf));(repeat ((first|refine qT ?_|refine qF ?_|refine qO ?_|(with_reducible intro z hz);(first|(replace hz:=hz (by omega);subst hz)|subst hz));(try (conv=>whnf))))
  exact hfin _ (aA.refl _)
 ·rw[hle]at hp
  obtain⟨p,hq,rfl⟩:=MW hp
  have hpe:=nY hq
  have hlt:=hpe.length_eq
  have hpf:=hfit p (List.mem_of_getElem? hq)
  have hCo:=KE p.2 hpf.1 hpf.2
  unfold acv at hCo
  rw[List.length_cons]at hlt
  have hkp:∀y∈R.eraseIdx i,yM y.2:=fun y hy=>hfit y (hpe.subset (List.mem_cons_of_mem _ hy))
  (try (conv=>whnf));(repeat ((first|refine qT ?_|refine qF ?_|refine qO ?_|(with_reducible intro z hz);(first|(replace hz:=hz (by omega);subst hz)|subst hz)|(refine ah.mk _ (hC _ _ _ (PCw.of hCo)) (fun js hjs=>?_);subst hjs));(try (conv=>whnf))))
  exact⟨(true,p,R.eraseIdx i,out++[p.2]),⟨by
   dsimp only
   rw[List.append_assoc]
   exact (((hpe.map Prod.snd).append_left out).trans hperm),hkp⟩,by dsimp only;omega,by
   dsimp only
   exact ((aC.row 4 ((((out++[p.2]).map acv).map .imm)) rfl (by simp[acv])).trans ((aC.qD 3 ((MP kI acv true p (R.eraseIdx i))) rfl (by rw[hle,sM];rfl)).trans ((aC.renew 4 1 rfl (by first|omega|(intro _;rw[hk0 _ _ rfl];exact Nat.le_of_ble_eq_true rfl)) (by repeat (first|exact trivial|refine And.intro (bA _ _ _ _) ?_|refine And.intro rfl ?_))).trans (qSL 5 rfl rfl))))⟩
end Go.Proofs.YtfjibfdelbodjaaGreat.Po
