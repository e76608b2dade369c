/-
  Corpus: short steps; the tables of types; the law's example, by reckoning.
-/
import Derived.Test.YtfjibfdelbodjaaGreatProg
import Derived.Test.YtfjibfdelbodjaaGreatP8
namespace Go.Proofs.YtfjibfdelbodjaaGreat.Po
open Go Go.Pv Go.RowKit
set_option linter.unusedSimpArgs false
set_option maxRecDepth 10000
set_option maxHeartbeats 16000000
theorem qT {c A B:Prop} (k:A) (h:¬c→False:=by intro hc;first|omega|(simp[eqC,jD]at hc;first|done|omega)|contradiction):Fork c (fun _=>A) (fun _=>B):=.mk (fun _=>k) (fun hc=>(h hc).elim)
theorem qF {c A B:Prop} (k:B) (h:c→False:=by intro hc;first|omega|(simp[eqC,jD]at hc;first|done|omega)|contradiction):Fork c (fun _=>A) (fun _=>B):=.mk (fun hc=>(h hc).elim) (fun _=>k)
theorem qO {P X:Prop} (k:X) (h:P:=by first|omega|exact Or.inl (by first|omega|(unfold most;omega)|decide +kernel|exact Nat.le_of_ble_eq_true rfl|assumption)|assumption|(unfold most;omega)|decide +kernel|exact Nat.le_of_ble_eq_true rfl|assumption|(simp[most];omega)):Owe P X:=.mk h k
theorem qSL {Γ:Ctx} {n:Nat} {A A':List (Nat×PV)} {B B':List Blk} (m:Nat) (hB:B.take m=B') (hm:B'.length=m)
  (hn0:Γ.n0≤m:=by first|omega|(rw[h0];exact Nat.le_of_ble_eq_true rfl))
  (hbl:B'.all (fA m)=true:=by first|(simp only[List.all_cons,List.all_nil,fA,jS,dO,dN,Bool.and_true,Bool.true_and];first|done|decide)|rfl|simp[fA,dN,dO,jS])
  (hE:wkV m A A':=by (repeat ((conv=>whnf);first|exact trivial|refine And.intro (by first|exact av.any|exact av.eq (by with_reducible rfl) rfl|exact av.int (by first|omega|(simp;first|done|omega))|exact av.eq rfl rfl|exact av.le rfl (ILe.nil _)) ?_))):aC Γ n ⟨A,B⟩ ⟨A',B'⟩:=aC.slots m hn0 hB hm hbl hE
theorem wZ:aJ Tryz.prog 3=some ⟨false,1,[.int .i64 0],.int .i64⟩:=by kernel_rfl
theorem kX:aJ Tryz.prog 9=some ⟨false,1,[.str ⟨#[]⟩],.str⟩:=by kernel_rfl
theorem ql:aJ Tryz.prog 4=some ⟨false,1,[.bool false],.bool⟩:=by kernel_rfl
theorem nR:aJ Tryz.prog 53=some ⟨false,1,[.nil],.slice 3 1 8⟩:=by kernel_rfl
theorem Nq:aJ Tryz.prog 35=some ⟨true,3,[.int .i64 0,.int .i64 0,.int .i64 0],.struct [(0,1,false),(1,1,false),(2,1,false)]⟩:=by kernel_rfl
theorem IY:aJ Tryz.prog 211=some ⟨true,3,[.int .i64 0,.int .i64 0,.int .i64 0],.struct [(0,1,false),(1,1,false),(2,1,false)]⟩:=by kernel_rfl
theorem Gn:aJ Tryz.prog 213=some ⟨true,4,[.str ⟨#[]⟩,.int .i64 0,.int .i64 0,.int .i64 0],.struct [(0,1,false),(1,3,true)]⟩:=by kernel_rfl
theorem BH:aJ Tryz.prog 36=some ⟨false,1,[.nil],.slice 213 4 40⟩:=by kernel_rfl
theorem Gm:aJ Tryz.prog 39=some ⟨true,8,[.int .i64 0,.int .i64 0,.int .i64 0,.int .i64 0,.str ⟨#[]⟩,.nil,.nil,.nil],.struct [(0,3,true),(3,1,false),(4,1,false),(5,1,false),(6,1,false),(7,1,false)]⟩:=by kernel_rfl
theorem Bn:aJ Tryz.prog 37=some ⟨false,1,[.nil],.slice 39 8 120⟩:=by kernel_rfl
theorem pV:aJ Tryz.prog 119=some ⟨true,2,[.int .i64 0,.str ⟨#[]⟩],.struct [(0,1,false),(1,1,false)]⟩:=by kernel_rfl
theorem lS:aJ Tryz.prog 33=some ⟨false,1,[.nil],.slice 119 2 24⟩:=by kernel_rfl
theorem mV:aJ Tryz.prog 40=some ⟨false,1,[.nil],.slice 9 1 16⟩:=by kernel_rfl
theorem gZ:aJ Tryz.prog 42=some ⟨true,3,[.int .i64 0,.int .i64 0,.str ⟨#[]⟩],.struct [(0,1,false),(1,1,false),(2,1,false)]⟩:=by kernel_rfl
theorem jC:aJ Tryz.prog 45=some ⟨true,25,[.int .i64 0,.nil,.nil,.int .i64 0,.int .i64 0,.int .i64 0,.int .i64 0,.int .i64 0,.int .i64 0,.str ⟨#[]⟩,.nil,.nil,.nil,.nil,.nil,.str ⟨#[]⟩,.str ⟨#[]⟩,.int .i64 0,.int .i64 0,.str ⟨#[]⟩,.int .i64 0,.int .i64 0,.int .i64 0,.str ⟨#[]⟩,.nil],.struct [(0,1,false),(1,1,false),(2,1,false),(3,1,false),(4,1,false),(5,8,true),(13,1,false),(14,1,false),(15,1,false),(16,1,false),(17,3,true),(20,1,false),(21,1,false),(22,1,false),(23,1,false),(24,1,false)]⟩:=by kernel_rfl
theorem l5:aJ Tryz.prog 43=some ⟨false,1,[.nil],.slice 45 25 368⟩:=by kernel_rfl
theorem dh:aJ Tryz.prog 47=some ⟨true,28,[.int .i64 0,.int .i64 0,.int .i64 0,.int .i64 0,.nil,.nil,.int .i64 0,.int .i64 0,.int .i64 0,.int .i64 0,.int .i64 0,.int .i64 0,.str ⟨#[]⟩,.nil,.nil,.nil,.nil,.nil,.str ⟨#[]⟩,.str ⟨#[]⟩,.int .i64 0,.int .i64 0,.str ⟨#[]⟩,.int .i64 0,.int .i64 0,.int .i64 0,.str ⟨#[]⟩,.nil],.struct [(0,1,false),(1,1,false),(2,1,false),(3,25,true)]⟩:=by kernel_rfl
theorem bY:aJ Tryz.prog 30=some ⟨false,1,[.nil],.slice 47 28 392⟩:=by kernel_rfl
theorem kK:aJ Tryz.prog 67=some ⟨true,2,[.int .i64 0,.int .i64 0],.struct [(0,1,false),(1,1,false)]⟩:=by kernel_rfl
theorem rX:aJ Tryz.prog 70=some ⟨true,7,[.int .i64 0,.str ⟨#[]⟩,.int .i64 0,.int .i64 0,.int .i64 0,.str ⟨#[]⟩,.nil],.struct [(0,1,false),(1,1,false),(2,1,false),(3,3,true),(6,1,false)]⟩:=by kernel_rfl
theorem nD:aJ Tryz.prog 71=some ⟨false,1,[.nil],.slice 70 7 88⟩:=by kernel_rfl
theorem kF:aJ Tryz.prog 74=some ⟨true,4,[.int .i64 0,.int .i64 0,.str ⟨#[]⟩,.nil],.struct [(0,1,false),(1,1,false),(2,1,false),(3,1,false)]⟩:=by kernel_rfl
theorem iH:aJ Tryz.prog 22=some ⟨false,1,[.nil],.slice 74 4 56⟩:=by kernel_rfl
theorem uG:aJ Tryz.prog 120=some ⟨false,1,[.nm],.map 3 70⟩:=by kernel_rfl
theorem yT:aJ Tryz.prog 121=some ⟨false,1,[.nm],.map 3 4⟩:=by kernel_rfl
theorem gT:aJ Tryz.prog 122=some ⟨false,1,[.nm],.map 67 47⟩:=by kernel_rfl
theorem qX:aJ Tryz.prog 124=some ⟨true,3,[.nm,.nm,.nm],.struct [(0,1,false),(1,1,false),(2,1,false)]⟩:=by kernel_rfl
def tdl:List (TypeId×TD):=[(3,⟨false,1,[.int .i64 0],.int .i64⟩),(9,⟨false,1,[.str ⟨#[]⟩],.str⟩),(4,⟨false,1,[.bool false],.bool⟩),(53,⟨false,1,[.nil],.slice 3 1 8⟩),(35,⟨true,3,[.int .i64 0,.int .i64 0,.int .i64 0],.struct [(0,1,false),(1,1,false),(2,1,false)]⟩),(211,⟨true,3,[.int .i64 0,.int .i64 0,.int .i64 0],.struct [(0,1,false),(1,1,false),(2,1,false)]⟩),(213,⟨true,4,[.str ⟨#[]⟩,.int .i64 0,.int .i64 0,.int .i64 0],.struct [(0,1,false),(1,3,true)]⟩),(36,⟨false,1,[.nil],.slice 213 4 40⟩),(39,⟨true,8,[.int .i64 0,.int .i64 0,.int .i64 0,.int .i64 0,.str ⟨#[]⟩,.nil,.nil,.nil],.struct [(0,3,true),(3,1,false),(4,1,false),(5,1,false),(6,1,false),(7,1,false)]⟩),(37,⟨false,1,[.nil],.slice 39 8 120⟩),(119,⟨true,2,[.int .i64 0,.str ⟨#[]⟩],.struct [(0,1,false),(1,1,false)]⟩),(33,⟨false,1,[.nil],.slice 119 2 24⟩),(40,⟨false,1,[.nil],.slice 9 1 16⟩),(42,⟨true,3,[.int .i64 0,.int .i64 0,.str ⟨#[]⟩],.struct [(0,1,false),(1,1,false),(2,1,false)]⟩),(45,⟨true,25,[.int .i64 0,.nil,.nil,.int .i64 0,.int .i64 0,.int .i64 0,.int .i64 0,.int .i64 0,.int .i64 0,.str ⟨#[]⟩,.nil,.nil,.nil,.nil,.nil,.str ⟨#[]⟩,.str ⟨#[]⟩,.int .i64 0,.int .i64 0,.str ⟨#[]⟩,.int .i64 0,.int .i64 0,.int .i64 0,.str ⟨#[]⟩,.nil],.struct [(0,1,false),(1,1,false),(2,1,false),(3,1,false),(4,1,false),(5,8,true),(13,1,false),(14,1,false),(15,1,false),(16,1,false),(17,3,true),(20,1,false),(21,1,false),(22,1,false),(23,1,false),(24,1,false)]⟩),(43,⟨false,1,[.nil],.slice 45 25 368⟩),(47,⟨true,28,[.int .i64 0,.int .i64 0,.int .i64 0,.int .i64 0,.nil,.nil,.int .i64 0,.int .i64 0,.int .i64 0,.int .i64 0,.int .i64 0,.int .i64 0,.str ⟨#[]⟩,.nil,.nil,.nil,.nil,.nil,.str ⟨#[]⟩,.str ⟨#[]⟩,.int .i64 0,.int .i64 0,.str ⟨#[]⟩,.int .i64 0,.int .i64 0,.int .i64 0,.str ⟨#[]⟩,.nil],.struct [(0,1,false),(1,1,false),(2,1,false),(3,25,true)]⟩),(30,⟨false,1,[.nil],.slice 47 28 392⟩),(67,⟨true,2,[.int .i64 0,.int .i64 0],.struct [(0,1,false),(1,1,false)]⟩),(70,⟨true,7,[.int .i64 0,.str ⟨#[]⟩,.int .i64 0,.int .i64 0,.int .i64 0,.str ⟨#[]⟩,.nil],.struct [(0,1,false),(1,1,false),(2,1,false),(3,3,true),(6,1,false)]⟩),(71,⟨false,1,[.nil],.slice 70 7 88⟩),(74,⟨true,4,[.int .i64 0,.int .i64 0,.str ⟨#[]⟩,.nil],.struct [(0,1,false),(1,1,false),(2,1,false),(3,1,false)]⟩),(22,⟨false,1,[.nil],.slice 74 4 56⟩),(120,⟨false,1,[.nm],.map 3 70⟩),(121,⟨false,1,[.nm],.map 3 4⟩),(122,⟨false,1,[.nm],.map 67 47⟩),(124,⟨true,3,[.nm,.nm,.nm],.struct [(0,1,false),(1,1,false),(2,1,false)]⟩)]
theorem lY:EW Tryz.prog tdl:=⟨wZ,kX,ql,nR,Nq,IY,Gn,BH,Gm,Bn,pV,lS,mV,gZ,jC,l5,dh,bY,kK,rX,nD,kF,iH,uG,yT,gT,qX,trivial⟩
theorem mixed:Tryz.prog.follows .mixedOrders=true:=by kernel_rfl
def eqs:TypeId→Option (List CK):=fun t=>if t=67 then some [.int .i64,.int .i64] else if t=42 then some [.int .i64,.int .i64,.str] else if t=119 then some [.int .i64,.str] else none
theorem ay:dW Tryz.prog eqs:=fun t ks h=>qL t ks (by
 unfold eqs at h
 split at h
 ·rename_i e;subst e;rw[←h];kernel_rfl
 ·split at h
  ·rename_i e;subst e;rw[←h];kernel_rfl
  ·split at h
   ·rename_i e;subst e;rw[←h];kernel_rfl
   ·cases h)
noncomputable def tbn (fr:Nat→List Nat) (hk:Nat→Bool):Tb:=⟨Pv.look tdl,eqs,fun _=>none,fr,hk,fun _=>0⟩
noncomputable abbrev tbf (fr:Nat→List Nat):Tb:=tbn fr fun _=>false
noncomputable def tb0:Tb:=tbf fun _=>[]
theorem aH {fr:Nat→List Nat} {hk:Nat→Bool}:∀t d,(tbn fr hk).td t=some d→aJ Tryz.prog t=some d:=Pv.look_ok lY
def aM:Env:=⟨fun _=>none,fun _=>True,fun _ _ _ _=>trivial⟩
theorem take_at {α:Type} {l:List α} {k:Nat} {x:α} (hx:l[k]?=some x):l.take (k+1)=l.take k++[x]:=by rw[List.take_add_one,hx];rfl
end Go.Proofs.YtfjibfdelbodjaaGreat.Po
