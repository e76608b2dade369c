/-
  Short steps; the tables of types; enacted items as plain values. Instructions and enacted items as plain values; which order refers to an instruction; the law of it. Arguments that came in: starts, instructions, enacted items and slices of them.
-/
import Derived.Test.YtfjibfdelbodjaaGreatProg
import Derived.Test.YtfjibfdelbodjaaGreatP8
namespace Go.Proofs.YtfjibfdelbodjaaGreat.Pe
open Go Go.Pv Go.RowKit
set_option linter.unusedSimpArgs false
set_option maxRecDepth 10000
set_option maxHeartbeats 16000000
theorem qT {c A B:Prop} (k:A) (h:¬c→False:=by intro hc;first|omega|(simp[eqC,jD]at hc;first|done|omega)|contradiction):Fork c (fun _=>A) (fun _=>B):=.mk (fun _=>k) (fun hc=>(h hc).elim)
theorem qF {c A B:Prop} (k:B) (h:c→False:=by intro hc;first|omega|(simp[eqC,jD]at hc;first|done|omega)|contradiction):Fork c (fun _=>A) (fun _=>B):=.mk (fun hc=>(h hc).elim) (fun _=>k)
theorem qO {P X:Prop} (k:X) (h:P:=by first|omega|exact Or.inl (by first|omega|(unfold most;omega)|decide +kernel|exact Nat.le_of_ble_eq_true rfl|assumption)|assumption|(unfold most;omega)|decide +kernel|exact Nat.le_of_ble_eq_true rfl|assumption|(simp[most];omega)):Owe P X:=.mk h k
theorem qSL {Γ:Ctx} {n:Nat} {A A':List (Nat×PV)} {B B':List Blk} (m:Nat) (hB:B.take m=B') (hm:B'.length=m)
  (hn0:Γ.n0≤m:=by first|omega|(rw[h0];exact Nat.le_of_ble_eq_true rfl))
  (hbl:B'.all (fA m)=true:=by first|(simp only[List.all_cons,List.all_nil,fA,jS,dO,dN,Bool.and_true,Bool.true_and];first|done|decide)|rfl|simp[fA,dN,dO,jS])
  (hE:wkV m A A':=by (repeat ((conv=>whnf);first|exact trivial|refine And.intro (by first|exact av.any|exact av.eq (by with_reducible rfl) rfl|exact av.int (by first|omega|(simp;first|done|omega))|exact av.eq rfl rfl|exact av.le rfl (ILe.nil _)) ?_))):aC Γ n ⟨A,B⟩ ⟨A',B'⟩:=aC.slots m hn0 hB hm hbl hE
theorem wZ:aJ Tryz.prog 3=some ⟨false,1,[.int .i64 0],.int .i64⟩:=by kernel_rfl
theorem kX:aJ Tryz.prog 9=some ⟨false,1,[.str ⟨#[]⟩],.str⟩:=by kernel_rfl
theorem ql:aJ Tryz.prog 4=some ⟨false,1,[.bool false],.bool⟩:=by kernel_rfl
theorem gZ:aJ Tryz.prog 42=some ⟨true,3,[.int .i64 0,.int .i64 0,.str ⟨#[]⟩],.struct [(0,1,false),(1,1,false),(2,1,false)]⟩:=by kernel_rfl
theorem jC:aJ Tryz.prog 45=some ⟨true,25,[.int .i64 0,.nil,.nil,.int .i64 0,.int .i64 0,.int .i64 0,.int .i64 0,.int .i64 0,.int .i64 0,.str ⟨#[]⟩,.nil,.nil,.nil,.nil,.nil,.str ⟨#[]⟩,.str ⟨#[]⟩,.int .i64 0,.int .i64 0,.str ⟨#[]⟩,.int .i64 0,.int .i64 0,.int .i64 0,.str ⟨#[]⟩,.nil],.struct [(0,1,false),(1,1,false),(2,1,false),(3,1,false),(4,1,false),(5,8,true),(13,1,false),(14,1,false),(15,1,false),(16,1,false),(17,3,true),(20,1,false),(21,1,false),(22,1,false),(23,1,false),(24,1,false)]⟩:=by kernel_rfl
theorem dh:aJ Tryz.prog 47=some ⟨true,28,[.int .i64 0,.int .i64 0,.int .i64 0,.int .i64 0,.nil,.nil,.int .i64 0,.int .i64 0,.int .i64 0,.int .i64 0,.int .i64 0,.int .i64 0,.str ⟨#[]⟩,.nil,.nil,.nil,.nil,.nil,.str ⟨#[]⟩,.str ⟨#[]⟩,.int .i64 0,.int .i64 0,.str ⟨#[]⟩,.int .i64 0,.int .i64 0,.int .i64 0,.str ⟨#[]⟩,.nil],.struct [(0,1,false),(1,1,false),(2,1,false),(3,25,true)]⟩:=by kernel_rfl
theorem bY:aJ Tryz.prog 30=some ⟨false,1,[.nil],.slice 47 28 392⟩:=by kernel_rfl
theorem pU:aJ Tryz.prog 78=some ⟨true,2,[.int .i64 0,.int .i64 0],.struct [(0,1,false),(1,1,false)]⟩:=by kernel_rfl
theorem l7:aJ Tryz.prog 26=some ⟨false,1,[.nil],.slice 78 2 16⟩:=by kernel_rfl
theorem nR:aJ Tryz.prog 53=some ⟨false,1,[.nil],.slice 3 1 8⟩:=by kernel_rfl
theorem jT:aJ Tryz.prog 231=some ⟨false,1,[.nf],.fn⟩:=by kernel_rfl
theorem ji:aJ Tryz.prog 172=some ⟨false,1,[.nm],.map 3 174⟩:=by kernel_rfl
theorem mH:aJ Tryz.prog 174=some ⟨false,1,[.nf],.fn⟩:=by kernel_rfl
def tdl:List (TypeId×TD):=[(3,⟨false,1,[.int .i64 0],.int .i64⟩),(9,⟨false,1,[.str ⟨#[]⟩],.str⟩),(4,⟨false,1,[.bool false],.bool⟩),(42,⟨true,3,[.int .i64 0,.int .i64 0,.str ⟨#[]⟩],.struct [(0,1,false),(1,1,false),(2,1,false)]⟩),(45,⟨true,25,[.int .i64 0,.nil,.nil,.int .i64 0,.int .i64 0,.int .i64 0,.int .i64 0,.int .i64 0,.int .i64 0,.str ⟨#[]⟩,.nil,.nil,.nil,.nil,.nil,.str ⟨#[]⟩,.str ⟨#[]⟩,.int .i64 0,.int .i64 0,.str ⟨#[]⟩,.int .i64 0,.int .i64 0,.int .i64 0,.str ⟨#[]⟩,.nil],.struct [(0,1,false),(1,1,false),(2,1,false),(3,1,false),(4,1,false),(5,8,true),(13,1,false),(14,1,false),(15,1,false),(16,1,false),(17,3,true),(20,1,false),(21,1,false),(22,1,false),(23,1,false),(24,1,false)]⟩),(47,⟨true,28,[.int .i64 0,.int .i64 0,.int .i64 0,.int .i64 0,.nil,.nil,.int .i64 0,.int .i64 0,.int .i64 0,.int .i64 0,.int .i64 0,.int .i64 0,.str ⟨#[]⟩,.nil,.nil,.nil,.nil,.nil,.str ⟨#[]⟩,.str ⟨#[]⟩,.int .i64 0,.int .i64 0,.str ⟨#[]⟩,.int .i64 0,.int .i64 0,.int .i64 0,.str ⟨#[]⟩,.nil],.struct [(0,1,false),(1,1,false),(2,1,false),(3,25,true)]⟩),(30,⟨false,1,[.nil],.slice 47 28 392⟩),(78,⟨true,2,[.int .i64 0,.int .i64 0],.struct [(0,1,false),(1,1,false)]⟩),(26,⟨false,1,[.nil],.slice 78 2 16⟩),(53,⟨false,1,[.nil],.slice 3 1 8⟩),(231,⟨false,1,[.nf],.fn⟩),(172,⟨false,1,[.nm],.map 3 174⟩),(174,⟨false,1,[.nf],.fn⟩)]
theorem lY:EW Tryz.prog tdl:=⟨wZ,kX,ql,gZ,jC,dh,bY,pU,l7,nR,jT,ji,mH,trivial⟩
theorem mixed:Tryz.prog.follows .mixedOrders=true:=by kernel_rfl
def eqs:TypeId→Option (List CK):=fun t=>if t=78 then some [.int .i64,.int .i64] else if t=42 then some [.int .i64,.int .i64,.str] else none
theorem ay:dW Tryz.prog eqs:=fun t ks h=>qL t ks (by
 unfold eqs at h
 split at h
 ·rename_i e;subst e;rw[←h];kernel_rfl
 ·split at h
  ·rename_i e;subst e;rw[←h];kernel_rfl
  ·cases h)
noncomputable def tbn (fr:Nat→List Nat) (hk:Nat→Bool):Tb:=⟨Pv.look tdl,eqs,fun _=>none,fr,hk,fun _=>0⟩
noncomputable abbrev tbf (fr:Nat→List Nat):Tb:=tbn fr fun _=>false
noncomputable def tb0:Tb:=tbf fun _=>[]
theorem aH {fr:Nat→List Nat} {hk:Nat→Bool}:∀t d,(tbn fr hk).td t=some d→aJ Tryz.prog t=some d:=Pv.look_ok lY
def aM:Env:=⟨fun _=>none,fun _=>True,fun _ _ _ _=>trivial⟩
theorem take_at {α:Type} {l:List α} {k:Nat} {x:α} (hx:l[k]?=some x):l.take (k+1)=l.take k++[x]:=by rw[List.take_add_one,hx];rfl
end Go.Proofs.YtfjibfdelbodjaaGreat.Pe
namespace Go.Proofs.YtfjibfdelbodjaaGreat.Pe
open Go Go.Pv Go.RowKit
set_option linter.unusedSimpArgs false
set_option maxRecDepth 10000
set_option maxHeartbeats 16000000
abbrev Str:=ByteArray
structure St where
 k:Int
 d:Int
 e:Str
structure Im where
 kind:Int
 m:Nat→IV
 st:St
 a:Int
 i:Int
 d:Int
 ev:Str
 b:IV
structure En where
 act:Int
 item:Int
 day:Int
 it:Im
def stv (x:St):IV:=.agg [.int .i64 x.k,.int .i64 x.d,.str x.e]
def imv (x:Im):IV:=.agg [.int .i64 x.kind,x.m 1,x.m 2,x.m 3,x.m 4,x.m 5,x.m 6,x.m 7,x.m 8,x.m 9,x.m 10,x.m 11,x.m 12,x.m 13,x.m 14,x.m 15,x.m 16,.int .i64 x.st.k,.int .i64 x.st.d,.str x.st.e,.int .i64 x.a,.int .i64 x.i,.int .i64 x.d,.str x.ev,x.b]
def cu (x:En):IV:=.agg [.int .i64 x.act,.int .i64 x.item,.int .i64 x.day,.int .i64 x.it.kind,x.it.m 1,x.it.m 2,x.it.m 3,x.it.m 4,x.it.m 5,x.it.m 6,x.it.m 7,x.it.m 8,x.it.m 9,x.it.m 10,x.it.m 11,x.it.m 12,x.it.m 13,x.it.m 14,x.it.m 15,x.it.m 16,.int .i64 x.it.st.k,.int .i64 x.it.st.d,.str x.it.st.e,.int .i64 x.it.a,.int .i64 x.it.i,.int .i64 x.it.d,.str x.it.ev,x.it.b]
def refers (x:Im) (a i:Int):Bool:=if x.kind=7∨x.kind=8∨x.kind=9 then decide (x.a=a)&&(decide (x.i=i)||decide (x.i=-1)) else if x.kind=11 then decide (x.a=a)&&decide (x.i=i) else false
theorem qZ {Q:Prop} (x:Im) (a i:Int) (h1:(x.kind=7∨x.kind=8∨x.kind=9)→x.a=a→x.i=i→refers x a i=true→Q) (h2:(x.kind=7∨x.kind=8∨x.kind=9)→x.a=a→¬x.i=i→x.i=-1→refers x a i=true→Q) (h3:(x.kind=7∨x.kind=8∨x.kind=9)→x.a=a→¬x.i=i→¬x.i=-1→refers x a i=false→Q)
  (h4:(x.kind=7∨x.kind=8∨x.kind=9)→¬x.a=a→refers x a i=false→Q) (h5:x.kind=11→x.a=a→x.i=i→refers x a i=true→Q) (h6:x.kind=11→x.a=a→¬x.i=i→refers x a i=false→Q) (h7:x.kind=11→¬x.a=a→refers x a i=false→Q)
  (h8:¬x.kind=7→¬x.kind=8→¬x.kind=9→¬x.kind=11→refers x a i=false→Q):Q:=by
 unfold refers at *
 by_cases c1:x.kind=7∨x.kind=8∨x.kind=9
 ·by_cases c2:x.a=a
  ·by_cases c3:x.i=i
   ·exact h1 c1 c2 c3 (by simp[c1,c2,c3])
   ·by_cases c4:x.i=-1
    ·exact h2 c1 c2 c3 c4 (by rw[if_pos c1];simp[c2,c4])
    ·exact h3 c1 c2 c3 c4 (by simp[c1,c2,c3,c4])
  ·exact h4 c1 c2 (by simp[c1,c2])
 ·by_cases c5:x.kind=11
  ·by_cases c2:x.a=a
   ·by_cases c3:x.i=i
    ·exact h5 c5 c2 c3 (by simp[c5,c2,c3])
    ·exact h6 c5 c2 c3 (by simp[c5,c2,c3])
   ·exact h7 c5 c2 (by simp[c5,c2])
  ·exact h8 (fun h=>c1 (Or.inl h)) (fun h=>c1 (Or.inr (Or.inl h))) (fun h=>c1 (Or.inr (Or.inr h))) c5 (by simp[c1,c5])
theorem Kh (x:Im) (a i:Int):PC Tryz.prog aM 131 [imv x,.int .i64 a,.int .i64 i] [.bool (refers x a i)]:=by
 unfold imv
 apply qZ x a i
 ·rintro (h|h|h) c2 c3 hv
  all_goals (rw[hv])
  all_goals (refine PC.aj (T:=tb0) ay aH rfl mixed Tryz.func131 rfl rfl (Nat.le_of_ble_eq_true rfl) ?_;intro Γ C WK LP fin h0 hW hC hB hR hLP hfin)
  all_goals ((try (conv=>whnf));(repeat ((first|refine qT ?_|refine qF ?_|refine qO ?_|(with_reducible intro z hz);(first|(replace hz:=hz (by omega);subst hz)|subst hz));(try (conv=>whnf)))))
  all_goals (exact hfin _ (aA.refl _))
 ·rintro (h|h|h) c2 c3 c4 hv
  all_goals (rw[hv])
  all_goals (refine PC.aj (T:=tb0) ay aH rfl mixed Tryz.func131 rfl rfl (Nat.le_of_ble_eq_true rfl) ?_;intro Γ C WK LP fin h0 hW hC hB hR hLP hfin)
  all_goals ((try (conv=>whnf));(repeat ((first|refine qT ?_|refine qF ?_|refine qO ?_|(with_reducible intro z hz);(first|(replace hz:=hz (by omega);subst hz)|subst hz));(try (conv=>whnf)))))
  all_goals (exact hfin _ (aA.refl _))
 ·rintro (h|h|h) c2 c3 c4 hv
  all_goals (rw[hv])
  all_goals (refine PC.aj (T:=tb0) ay aH rfl mixed Tryz.func131 rfl rfl (Nat.le_of_ble_eq_true rfl) ?_;intro Γ C WK LP fin h0 hW hC hB hR hLP hfin)
  all_goals ((try (conv=>whnf));(repeat ((first|refine qT ?_|refine qF ?_|refine qO ?_|(with_reducible intro z hz);(first|(replace hz:=hz (by omega);subst hz)|subst hz));(try (conv=>whnf)))))
  all_goals (exact hfin _ (aA.refl _))
 ·rintro (h|h|h) c2 hv
  all_goals (rw[hv])
  all_goals (refine PC.aj (T:=tb0) ay aH rfl mixed Tryz.func131 rfl rfl (Nat.le_of_ble_eq_true rfl) ?_;intro Γ C WK LP fin h0 hW hC hB hR hLP hfin)
  all_goals ((try (conv=>whnf));(repeat ((first|refine qT ?_|refine qF ?_|refine qO ?_|(with_reducible intro z hz);(first|(replace hz:=hz (by omega);subst hz)|subst hz));(try (conv=>whnf)))))
  all_goals (exact hfin _ (aA.refl _))
 ·intro h c2 c3 hv
  all_goals (rw[hv])
  all_goals (refine PC.aj (T:=tb0) ay aH rfl mixed Tryz.func131 rfl rfl (Nat.le_of_ble_eq_true rfl) ?_;intro Γ C WK LP fin h0 hW hC hB hR hLP hfin)
  all_goals ((try (conv=>whnf));(repeat ((first|refine qT ?_|refine qF ?_|refine qO ?_|(with_reducible intro z hz);(first|(replace hz:=hz (by omega);subst hz)|subst hz));(try (conv=>whnf)))))
  all_goals (exact hfin _ (aA.refl _))
 ·intro h c2 c3 hv
  all_goals (rw[hv])
  all_goals (refine PC.aj (T:=tb0) ay aH rfl mixed Tryz.func131 rfl rfl (Nat.le_of_ble_eq_true rfl) ?_;intro Γ C WK LP fin h0 hW hC hB hR hLP hfin)
  all_goals ((try (conv=>whnf));(repeat ((first|refine qT ?_|refine qF ?_|refine qO ?_|(with_reducible intro z hz);(first|(replace hz:=hz (by omega);subst hz)|subst hz));(try (conv=>whnf)))))
  all_goals (exact hfin _ (aA.refl _))
 ·intro h c2 hv
  all_goals (rw[hv])
  all_goals (refine PC.aj (T:=tb0) ay aH rfl mixed Tryz.func131 rfl rfl (Nat.le_of_ble_eq_true rfl) ?_;intro Γ C WK LP fin h0 hW hC hB hR hLP hfin)
  all_goals ((try (conv=>whnf));(repeat ((first|refine qT ?_|refine qF ?_|refine qO ?_|(with_reducible intro z hz);(first|(replace hz:=hz (by omega);subst hz)|subst hz));(try (conv=>whnf)))))
  all_goals (exact hfin _ (aA.refl _))
 ·intro c7 c8 c9 c11 hv
  all_goals (rw[hv])
  all_goals (refine PC.aj (T:=tb0) ay aH rfl mixed Tryz.func131 rfl rfl (Nat.le_of_ble_eq_true rfl) ?_;intro Γ C WK LP fin h0 hW hC hB hR hLP hfin)
  all_goals ((try (conv=>whnf));(repeat ((first|refine qT ?_|refine qF ?_|refine qO ?_|(with_reducible intro z hz);(first|(replace hz:=hz (by omega);subst hz)|subst hz));(try (conv=>whnf)))))
  all_goals (exact hfin _ (aA.refl _))
theorem Oa (x:Im) (a i:Int):PC Tryz.prog aM 88 [imv x,.int .i64 a,.int .i64 i] [.bool (refers x a i)]:=by
 unfold imv
 apply qZ x a i
 ·rintro (h|h|h) c2 c3 hv
  all_goals (rw[hv])
  all_goals (refine PC.aj (T:=tb0) ay aH rfl mixed Tryz.func88 rfl rfl (Nat.le_of_ble_eq_true rfl) ?_;intro Γ C WK LP fin h0 hW hC hB hR hLP hfin)
  all_goals ((try (conv=>whnf));(repeat ((first|refine qT ?_|refine qF ?_|refine qO ?_|(with_reducible intro z hz);(first|(replace hz:=hz (by omega);subst hz)|subst hz));(try (conv=>whnf)))))
  all_goals (exact hfin _ (aA.refl _))
 ·rintro (h|h|h) c2 c3 c4 hv
  all_goals (rw[hv])
  all_goals (refine PC.aj (T:=tb0) ay aH rfl mixed Tryz.func88 rfl rfl (Nat.le_of_ble_eq_true rfl) ?_;intro Γ C WK LP fin h0 hW hC hB hR hLP hfin)
  all_goals ((try (conv=>whnf));(repeat ((first|refine qT ?_|refine qF ?_|refine qO ?_|(with_reducible intro z hz);(first|(replace hz:=hz (by omega);subst hz)|subst hz));(try (conv=>whnf)))))
  all_goals (exact hfin _ (aA.refl _))
 ·rintro (h|h|h) c2 c3 c4 hv
  all_goals (rw[hv])
  all_goals (refine PC.aj (T:=tb0) ay aH rfl mixed Tryz.func88 rfl rfl (Nat.le_of_ble_eq_true rfl) ?_;intro Γ C WK LP fin h0 hW hC hB hR hLP hfin)
  all_goals ((try (conv=>whnf));(repeat ((first|refine qT ?_|refine qF ?_|refine qO ?_|(with_reducible intro z hz);(first|(replace hz:=hz (by omega);subst hz)|subst hz));(try (conv=>whnf)))))
  all_goals (exact hfin _ (aA.refl _))
 ·rintro (h|h|h) c2 hv
  all_goals (rw[hv])
  all_goals (refine PC.aj (T:=tb0) ay aH rfl mixed Tryz.func88 rfl rfl (Nat.le_of_ble_eq_true rfl) ?_;intro Γ C WK LP fin h0 hW hC hB hR hLP hfin)
  all_goals ((try (conv=>whnf));(repeat ((first|refine qT ?_|refine qF ?_|refine qO ?_|(with_reducible intro z hz);(first|(replace hz:=hz (by omega);subst hz)|subst hz));(try (conv=>whnf)))))
  all_goals (exact hfin _ (aA.refl _))
 ·intro h c2 c3 hv
  all_goals (rw[hv])
  all_goals (refine PC.aj (T:=tb0) ay aH rfl mixed Tryz.func88 rfl rfl (Nat.le_of_ble_eq_true rfl) ?_;intro Γ C WK LP fin h0 hW hC hB hR hLP hfin)
  all_goals ((try (conv=>whnf));(repeat ((first|refine qT ?_|refine qF ?_|refine qO ?_|(with_reducible intro z hz);(first|(replace hz:=hz (by omega);subst hz)|subst hz));(try (conv=>whnf)))))
  all_goals (exact hfin _ (aA.refl _))
 ·intro h c2 c3 hv
  all_goals (rw[hv])
  all_goals (refine PC.aj (T:=tb0) ay aH rfl mixed Tryz.func88 rfl rfl (Nat.le_of_ble_eq_true rfl) ?_;intro Γ C WK LP fin h0 hW hC hB hR hLP hfin)
  all_goals ((try (conv=>whnf));(repeat ((first|refine qT ?_|refine qF ?_|refine qO ?_|(with_reducible intro z hz);(first|(replace hz:=hz (by omega);subst hz)|subst hz));(try (conv=>whnf)))))
  all_goals (exact hfin _ (aA.refl _))
 ·intro h c2 hv
  all_goals (rw[hv])
  all_goals (refine PC.aj (T:=tb0) ay aH rfl mixed Tryz.func88 rfl rfl (Nat.le_of_ble_eq_true rfl) ?_;intro Γ C WK LP fin h0 hW hC hB hR hLP hfin)
  all_goals ((try (conv=>whnf));(repeat ((first|refine qT ?_|refine qF ?_|refine qO ?_|(with_reducible intro z hz);(first|(replace hz:=hz (by omega);subst hz)|subst hz));(try (conv=>whnf)))))
  all_goals (exact hfin _ (aA.refl _))
 ·intro c7 c8 c9 c11 hv
  all_goals (rw[hv])
  all_goals (refine PC.aj (T:=tb0) ay aH rfl mixed Tryz.func88 rfl rfl (Nat.le_of_ble_eq_true rfl) ?_;intro Γ C WK LP fin h0 hW hC hB hR hLP hfin)
  all_goals ((try (conv=>whnf));(repeat ((first|refine qT ?_|refine qF ?_|refine qO ?_|(with_reducible intro z hz);(first|(replace hz:=hz (by omega);subst hz)|subst hz));(try (conv=>whnf)))))
  all_goals (exact hfin _ (aA.refl _))
end Go.Proofs.YtfjibfdelbodjaaGreat.Pe
namespace Go.Proofs.YtfjibfdelbodjaaGreat.Pe
open Go Go.Pv Go.RowKit
set_option linter.unusedSimpArgs false
set_option maxRecDepth 100000
def S0:List TypeId:=[3,9,35,211,213,36,39,37,119,33,40,42,45,43,47,30]
def Rt (x:St):Prop:=x.e.size≤maxLen
theorem Dl {is:List IV} (h:OkC Tryz.prog 42 is):∃x:St,is=[.int .i64 x.k,.int .i64 x.d,.str x.e]∧Rt x:=by
 obtain⟨parts,rfl,hl,hp⟩:=h.fQ Tryz.underlying42
 match parts,hl with
 |[p0,p1,p2],_=>
  obtain⟨k,rfl,_⟩:=(hp 0 _ _ rfl rfl).bT Tryz.underlying3
  obtain⟨d,rfl,_⟩:=(hp 1 _ _ rfl rfl).bT Tryz.underlying3
  obtain⟨e,rfl,h0⟩:=(hp 2 _ _ rfl rfl).fF Tryz.underlying9
  exact⟨⟨k,d,e⟩,rfl,h0⟩
section
variable {H:Type} {enc:TypeId×Value→H} {w:World} {bs:Nat} {spare:Nat→Bool} {held:Bool}
theorem tY {t e:TypeId} {a:Option Addr} {n c:Nat} {d:DataW H} {p:List MemPlace} {m:Nat} (hu:Tryz.prog.underlying t=some (.slice e)) (h:∃fuel,DataW.trod enc Tryz.prog w bs spare held fuel t (Value.slice a n c).cells.toList=some (d,p)) (hm:∀k∈d.weights Tryz.prog t,k≤m):n*Tryz.prog.bytesOf e≤m:=by
 obtain⟨fuel,hf⟩:=h
 rcases DataW.trod_slice hu hf with ⟨h1,_⟩|⟨a',len,cap,elems,rest,k,_,h1,hx,_,_,_,hel,_⟩
 ·simp only[Value.cells]at h1
  injection h1 with h1
  injection h1 with _ h1
  subst h1
  omega
 ·simp only[Value.cells]at h1
  injection h1 with h1
  injection h1 with _ h1
  injection hx with hx _
  have:=hm ((elems.length+rest.length)*Tryz.prog.bytesOf e) (by rw[hx];simp[DataW.weights,hu])
  subst h1
  refine Nat.le_trans (Nat.mul_le_mul_right _ ?_) this
  omega
end
end Go.Proofs.YtfjibfdelbodjaaGreat.Pe
