/-
  Corpus: enacted items as plain values, as they come in; legal order, by the program and by the reference; the law of it. The reference's legal order; the law of it.
-/
import Derived.Test.YtfjibfdelbodjaaGreatWBa
namespace Go.Proofs.YtfjibfdelbodjaaGreat.Po
open Go Go.Pv Go.RowKit
set_option linter.unusedSimpArgs false
set_option maxRecDepth 10000
set_option maxHeartbeats 16000000
structure St where
 k:Int
 d:Int
 e:ByteArray
structure Im where
 kind:Int
 m:Nat→IV
 st:St
 a:Int
 i:Int
 d:Int
 ev:ByteArray
 b:IV
structure En where
 act:Int
 item:Int
 day:Int
 it:Im
def stv (x:St):IV:=.agg [.int .i64 x.k,.int .i64 x.d,.str x.e]
def imv (x:Im):IV:=.agg [.int .i64 x.kind,x.m 1,x.m 2,x.m 3,x.m 4,x.m 5,x.m 6,x.m 7,x.m 8,x.m 9,x.m 10,x.m 11,x.m 12,x.m 13,x.m 14,x.m 15,x.m 16,.int .i64 x.st.k,.int .i64 x.st.d,.str x.st.e,.int .i64 x.a,.int .i64 x.i,.int .i64 x.d,.str x.ev,x.b]
def bZ (x:En):IV:=.agg [.int .i64 x.act,.int .i64 x.item,.int .i64 x.day,.int .i64 x.it.kind,x.it.m 1,x.it.m 2,x.it.m 3,x.it.m 4,x.it.m 5,x.it.m 6,x.it.m 7,x.it.m 8,x.it.m 9,x.it.m 10,x.it.m 11,x.it.m 12,x.it.m 13,x.it.m 14,x.it.m 15,x.it.m 16,.int .i64 x.it.st.k,.int .i64 x.it.st.d,.str x.it.st.e,.int .i64 x.it.a,.int .i64 x.it.i,.int .i64 x.it.d,.str x.it.ev,x.it.b]
def S0:List TypeId:=[3,9,35,211,213,36,39,37,119,33,40,42,45,43,47]
def TJ (x:St):Prop:=x.e.size≤maxLen
theorem DC {is:List IV} (h:OkC Tryz.prog 42 is):∃x:St,is=[.int .i64 x.k,.int .i64 x.d,.str x.e]∧TJ x:=by
 obtain⟨parts,rfl,hl,hp⟩:=h.gy Tryz.underlying42
 match parts,hl with
 |[p0,p1,p2],_=>
  obtain⟨k,rfl,_⟩:=(hp 0 _ _ rfl rfl).bS Tryz.underlying3
  obtain⟨d,rfl,_⟩:=(hp 1 _ _ rfl rfl).bS Tryz.underlying3
  obtain⟨e,rfl,h0⟩:=(hp 2 _ _ rfl rfl).fI Tryz.underlying9
  exact⟨⟨k,d,e⟩,rfl,h0⟩
section
variable {H:Type} {enc:TypeId×Value→H} {w:World} {bs:Nat} {spare:Nat→Bool} {held:Bool}
end
theorem jS (x:En):bZ x=.agg [.int .i64 x.act,.int .i64 x.item,.int .i64 x.day,.int .i64 x.it.kind,x.it.m 1,x.it.m 2,x.it.m 3,x.it.m 4,x.it.m 5,x.it.m 6,x.it.m 7,x.it.m 8,x.it.m 9,x.it.m 10,x.it.m 11,x.it.m 12,x.it.m 13,x.it.m 14,x.it.m 15,x.it.m 16,.int .i64 x.it.st.k,.int .i64 x.it.st.d,.str x.it.st.e,.int .i64 x.it.a,.int .i64 x.it.i,.int .i64 x.it.d,.str x.it.ev,x.it.b]:=rfl
def dW (a b:Int):Int:=if a < b then -1 else if b < a then 1 else 0
def y8 (a b:En):Int:=if dW a.day b.day≠0 then dW a.day b.day else if dW a.act b.act≠0 then dW a.act b.act else dW a.item b.item
theorem Nh (x:Int):PC Tryz.prog aM 94 [.int .i64 x] [.bool false]:=by
 refine PC.ak (T:=tb0) aB aH rfl mixed Tryz.func94 rfl rfl (Nat.le_of_ble_eq_true rfl) ?_;intro Γ C WK LP fin h0 hW hC hB hR hLP hfin
 (try (conv=>whnf));(repeat ((first|refine qT ?_|refine qF ?_|refine qO ?_|(with_reducible intro z hz);(first|(replace hz:=hz (by omega);subst hz)|subst hz));(try (conv=>whnf))))
 exact hfin _ (ay.refl _)
theorem IJ (a b:Int):PC Tryz.prog aM 97 [.int .i64 a,.int .i64 b] [.int .i64 (dW a b)]:=by
 have h1:=Nh a
 have h2:=Nh b
 unfold dW
 by_cases c1:a < b
 ·rw[if_pos c1]
  refine PC.ak (T:=tb0) aB aH rfl mixed Tryz.func97 rfl rfl (Nat.le_of_ble_eq_true rfl) ?_;intro Γ C WK LP fin h0 hW hC hB hR hLP hfin
  (try (conv=>whnf));(repeat ((first|refine qT ?_|refine qF ?_|refine qO ?_|(with_reducible intro z hz);(first|(replace hz:=hz (by omega);subst hz)|subst hz)|(refine ah.mk _ (hC _ _ _ (PCw.of h1)) (fun js hjs=>?_);subst hjs)|(refine ah.mk _ (hC _ _ _ (PCw.of h2)) (fun js hjs=>?_);subst hjs));(try (conv=>whnf))))
  exact hfin _ (ay.refl _)
 rw[if_neg c1]
 by_cases c2:b < a
 ·rw[if_pos c2]
  refine PC.ak (T:=tb0) aB aH rfl mixed Tryz.func97 rfl rfl (Nat.le_of_ble_eq_true rfl) ?_;intro Γ C WK LP fin h0 hW hC hB hR hLP hfin
  (try (conv=>whnf));(repeat ((first|refine qT ?_|refine qF ?_|refine qO ?_|(with_reducible intro z hz);(first|(replace hz:=hz (by omega);subst hz)|subst hz)|(refine ah.mk _ (hC _ _ _ (PCw.of h1)) (fun js hjs=>?_);subst hjs)|(refine ah.mk _ (hC _ _ _ (PCw.of h2)) (fun js hjs=>?_);subst hjs));(try (conv=>whnf))))
  exact hfin _ (ay.refl _)
 ·rw[if_neg c2]
  refine PC.ak (T:=tb0) aB aH rfl mixed Tryz.func97 rfl rfl (Nat.le_of_ble_eq_true rfl) ?_;intro Γ C WK LP fin h0 hW hC hB hR hLP hfin
  (try (conv=>whnf));(repeat ((first|refine qT ?_|refine qF ?_|refine qO ?_|(with_reducible intro z hz);(first|(replace hz:=hz (by omega);subst hz)|subst hz)|(refine ah.mk _ (hC _ _ _ (PCw.of h1)) (fun js hjs=>?_);subst hjs)|(refine ah.mk _ (hC _ _ _ (PCw.of h2)) (fun js hjs=>?_);subst hjs));(try (conv=>whnf))))
  exact hfin _ (ay.refl _)
def orZ (x y z:Int):Int:=if x≠0 then x else if y≠0 then y else z
theorem TV (x y z:Int):PC Tryz.prog aM 126 [.sl 1 [.int .i64 x,.int .i64 y,.int .i64 z]] [.int .i64 (orZ x y z)]:=by
 refine PC.ak (T:=tb0) aB aH rfl mixed Tryz.func126 rfl rfl (Nat.le_of_ble_eq_true rfl) ?_;intro Γ C WK LP fin h0 hW hC hB hR hLP hfin
 (try (conv=>whnf));(repeat ((first|refine qT ?_|refine qF ?_|refine qO ?_|(with_reducible intro z hz);(first|(replace hz:=hz (by omega);subst hz)|subst hz));(try (conv=>whnf))))
 refine hLP _ _ _ Nat (fun k=>⟨[(3,.imm (.int .i64 0)),(6,.imm (.sl 1 [.int .i64 x,.int .i64 y,.int .i64 z])),(7,.imm (.int .i64 3)),(8,.imm (.int .i64 (k:Nat)))],[]⟩) (fun k=>k≤3∧(0 < k→x=0)∧(1 < k→y=0)∧(2 < k→z=0)) (fun k=>3 - k) 0 ⟨by omega,by omega,by omega,by omega⟩ (qSL 0 rfl rfl) ?_
 rintro k ⟨hk,k1,k2,k3⟩
 have hc:k=0∨k=1∨k=2∨k=3:=by omega
 rcases hc with rfl|rfl|rfl|rfl
 ·by_cases hx:x=0
  ·(try (conv=>whnf));(repeat ((first|refine qT ?_|refine qF ?_|refine qO ?_|(with_reducible intro z hz);(first|(replace hz:=hz (by omega);subst hz)|subst hz));(try (conv=>whnf))))
   refine Idx.mk 0 (.int .i64 x) _ rfl rfl rfl ?_
   (try (conv=>whnf));(repeat ((first|refine qT ?_|refine qF ?_|refine qO ?_|(with_reducible intro z hz);(first|(replace hz:=hz (by omega);subst hz)|subst hz));(try (conv=>whnf))))
   exact⟨1,⟨by omega,fun _=>hx,by omega,by omega⟩,by dsimp only;omega,(qSL 0 rfl rfl)⟩
  ·rw[orZ,if_pos hx]at hfin
   (try (conv=>whnf));(repeat ((first|refine qT ?_|refine qF ?_|refine qO ?_|(with_reducible intro z hz);(first|(replace hz:=hz (by omega);subst hz)|subst hz));(try (conv=>whnf))))
   refine Idx.mk 0 (.int .i64 x) _ rfl rfl rfl ?_
   (try (conv=>whnf));(repeat ((first|refine qT ?_|refine qF ?_|refine qO ?_|(with_reducible intro z hz);(first|(replace hz:=hz (by omega);subst hz)|subst hz));(try (conv=>whnf))))
   exact hfin _ (ay.refl _)
 ·have hx:=k1 (by omega)
  by_cases hy:y=0
  ·(try (conv=>whnf));(repeat ((first|refine qT ?_|refine qF ?_|refine qO ?_|(with_reducible intro z hz);(first|(replace hz:=hz (by omega);subst hz)|subst hz));(try (conv=>whnf))))
   refine Idx.mk 1 (.int .i64 y) _ rfl rfl rfl ?_
   (try (conv=>whnf));(repeat ((first|refine qT ?_|refine qF ?_|refine qO ?_|(with_reducible intro z hz);(first|(replace hz:=hz (by omega);subst hz)|subst hz));(try (conv=>whnf))))
   exact⟨2,⟨by omega,fun _=>hx,fun _=>hy,by omega⟩,by dsimp only;omega,(qSL 0 rfl rfl)⟩
  ·rw[orZ,if_neg (by simpa using hx),if_pos hy]at hfin
   (try (conv=>whnf));(repeat ((first|refine qT ?_|refine qF ?_|refine qO ?_|(with_reducible intro z hz);(first|(replace hz:=hz (by omega);subst hz)|subst hz));(try (conv=>whnf))))
   refine Idx.mk 1 (.int .i64 y) _ rfl rfl rfl ?_
   (try (conv=>whnf));(repeat ((first|refine qT ?_|refine qF ?_|refine qO ?_|(with_reducible intro z hz);(first|(replace hz:=hz (by omega);subst hz)|subst hz));(try (conv=>whnf))))
   exact hfin _ (ay.refl _)
 ·have hx:=k1 (by omega)
  have hy:=k2 (by omega)
  by_cases hz:z=0
  ·(try (conv=>whnf));(repeat ((first|refine qT ?_|refine qF ?_|refine qO ?_|(with_reducible intro z hz);(first|(replace hz:=hz (by omega);subst hz)|subst hz));(try (conv=>whnf))))
   refine Idx.mk 2 (.int .i64 z) _ rfl rfl rfl ?_
   (try (conv=>whnf));(repeat ((first|refine qT ?_|refine qF ?_|refine qO ?_|(with_reducible intro z hz);(first|(replace hz:=hz (by omega);subst hz)|subst hz));(try (conv=>whnf))))
   exact⟨3,⟨by omega,fun _=>hx,fun _=>hy,fun _=>hz⟩,by dsimp only;omega,(qSL 0 rfl rfl)⟩
  ·rw[orZ,if_neg (by simpa using hx),if_neg (by simpa using hy)]at hfin
   (try (conv=>whnf));(repeat ((first|refine qT ?_|refine qF ?_|refine qO ?_|(with_reducible intro z hz);(first|(replace hz:=hz (by omega);subst hz)|subst hz));(try (conv=>whnf))))
   refine Idx.mk 2 (.int .i64 z) _ rfl rfl rfl ?_
   (try (conv=>whnf));(repeat ((first|refine qT ?_|refine qF ?_|refine qO ?_|(with_reducible intro z hz);(first|(replace hz:=hz (by omega);subst hz)|subst hz));(try (conv=>whnf))))
   exact hfin _ (ay.refl _)
 ·have hx:=k1 (by omega)
  have hy:=k2 (by omega)
  have hz:=k3 (by omega)
  rw[orZ,if_neg (by simpa using hx),if_neg (by simpa using hy),hz]at hfin
  (try (conv=>whnf));(repeat ((first|refine qT ?_|refine qF ?_|refine qO ?_|(with_reducible intro z hz);(first|(replace hz:=hz (by omega);subst hz)|subst hz));(try (conv=>whnf))))
  exact hfin _ (ay.refl _)
theorem xP (a b:En):PC Tryz.prog aM 80 [bZ a,bZ b] [.int .i64 (y8 a b)]:=by
 have h1:=IJ a.day b.day
 have h2:=IJ a.act b.act
 have h3:=IJ a.item b.item
 have h4:=TV (dW a.day b.day) (dW a.act b.act) (dW a.item b.item)
 have he:orZ (dW a.day b.day) (dW a.act b.act) (dW a.item b.item)=y8 a b:=rfl
 rw[he]at h4
 clear he
 generalize y8 a b=r at *
 generalize dW a.day b.day=x at *
 generalize dW a.act b.act=y at *
 generalize dW a.item b.item=z at *
 rw[jS a,jS b]
 refine PC.ak (T:=tb0) aB aH rfl mixed Tryz.func80 rfl rfl (Nat.le_of_ble_eq_true rfl) ?_;intro Γ C WK LP fin h0 hW hC hB hR hLP hfin
 (try (conv=>whnf));(repeat ((first|refine qT ?_|refine qF ?_|refine qO ?_|(with_reducible intro z hz);(first|(replace hz:=hz (by omega);subst hz)|subst hz)|(refine ah.mk _ (hC _ _ _ (PCw.of h1)) (fun js hjs=>?_);subst hjs)|(refine ah.mk _ (hC _ _ _ (PCw.of h2)) (fun js hjs=>?_);subst hjs)|(refine ah.mk _ (hC _ _ _ (PCw.of h3)) (fun js hjs=>?_);subst hjs));(try (conv=>whnf))))
 refine bK.mk [.int .i64 x,.int .i64 y,.int .i64 z] rfl ?_
 (try (conv=>whnf));(repeat ((first|refine qT ?_|refine qF ?_|refine qO ?_|(with_reducible intro z hz);(first|(replace hz:=hz (by omega);subst hz)|subst hz)|(refine ah.mk _ (hC _ _ _ (PCw.of h4)) (fun js hjs=>?_);subst hjs));(try (conv=>whnf))))
 exact hfin _ (ay.refl _)
end Go.Proofs.YtfjibfdelbodjaaGreat.Po
namespace Go.Proofs.YtfjibfdelbodjaaGreat.Po
open Go Go.Pv Go.RowKit
set_option linter.unusedSimpArgs false
set_option maxRecDepth 10000
set_option maxHeartbeats 16000000
theorem GU {a b:Int} (h:a < b):dW a b=-1:=if_pos h
theorem Ig {a b:Int} (h:b < a):dW a b=1:=by unfold dW;rw[if_neg (by omega),if_pos h]
theorem ru {a b:Int} (h:a=b):dW a b=0:=by unfold dW;rw[if_neg (by omega),if_neg (by omega)]
theorem JU {a b:En} {z:Int} (h:dW a.day b.day=z) (hz:z≠0):y8 a b=z:=by unfold y8;rw[if_pos (by rw[h];exact hz),h]
theorem Kr {a b:En} {z:Int} (h0:a.day=b.day) (h:dW a.act b.act=z) (hz:z≠0):y8 a b=z:=by unfold y8;rw[if_neg (by rw[ru h0];simp),if_pos (by rw[h];exact hz),h]
theorem xJ {a b:En} (h0:a.day=b.day) (h1:a.act=b.act):y8 a b=dW a.item b.item:=by unfold y8;rw[if_neg (by rw[ru h0];simp),if_neg (by rw[ru h1];simp)]
theorem Nq (a b:En):PC Tryz.prog aM 15 [bZ a,bZ b] [.int .i64 (y8 a b)]:=by
 rw[jS a,jS b]
 refine PC.ak (T:=tb0) aB aH rfl mixed Tryz.func15 rfl rfl (Nat.le_of_ble_eq_true rfl) ?_;intro Γ C WK LP fin h0 hW hC hB hR hLP hfin
 (try (conv=>whnf));(repeat ((first|refine qT ?_|refine qF ?_|refine qO ?_|(with_reducible intro z hz);(first|(replace hz:=hz (by omega);subst hz)|subst hz));(try (conv=>whnf))))
 refine hLP _ _ _ Nat (fun k=>⟨[(5,.imm (.sl 1 [.int .i64 a.day,.int .i64 a.act,.int .i64 a.item])),(6,.imm (.sl 1 [.int .i64 b.day,.int .i64 b.act,.int .i64 b.item])),(7,.imm (.int .i64 (k:Nat)))],[]⟩) (fun k=>k≤3∧(0 < k→a.day=b.day)∧(1 < k→a.act=b.act)∧(2 < k→a.item=b.item)) (fun k=>3 - k) 0 ⟨by omega,by omega,by omega,by omega⟩ ((aA.frozen 2 ([.int .i64 a.day,.int .i64 a.act,.int .i64 a.item]) rfl (by first|rfl|simp) (ILe.refl _) (by repeat (first|exact trivial|refine And.intro (qC _ _ _ _) ?_|refine And.intro rfl ?_))).trans ((aA.frozen 3 ([.int .i64 b.day,.int .i64 b.act,.int .i64 b.item]) rfl (by first|rfl|simp) (ILe.refl _) (by repeat (first|exact trivial|refine And.intro (qC _ _ _ _) ?_|refine And.intro rfl ?_))).trans (qSL 0 rfl rfl))) ?_
 rintro k ⟨hk,k1,k2,k3⟩
 have hc:k=0∨k=1∨k=2∨k=3:=by omega
 rcases hc with rfl|rfl|rfl|rfl
 ·rcases Int.lt_trichotomy a.day b.day with h|h|h
  ·rw[JU (GU h) (by decide)]at hfin
   (try (conv=>whnf));(repeat ((first|refine qT ?_|refine qF ?_|refine qO ?_|(with_reducible intro z hz);(first|(replace hz:=hz (by omega);subst hz)|subst hz));(try (conv=>whnf))))
   refine Idx.mk 0 (.int .i64 a.day) _ rfl rfl rfl ?_
   (try (conv=>whnf));(repeat ((first|refine qT ?_|refine qF ?_|refine qO ?_|(with_reducible intro z hz);(first|(replace hz:=hz (by omega);subst hz)|subst hz));(try (conv=>whnf))))
   refine Idx.mk 0 (.int .i64 b.day) _ rfl rfl rfl ?_
   (try (conv=>whnf));(repeat ((first|refine qT ?_|refine qF ?_|refine qO ?_|(with_reducible intro z hz);(first|(replace hz:=hz (by omega);subst hz)|subst hz));(try (conv=>whnf))))
   exact hfin _ (ay.refl _)
  ·(try (conv=>whnf));(repeat ((first|refine qT ?_|refine qF ?_|refine qO ?_|(with_reducible intro z hz);(first|(replace hz:=hz (by omega);subst hz)|subst hz));(try (conv=>whnf))))
   refine Idx.mk 0 (.int .i64 a.day) _ rfl rfl rfl ?_
   (try (conv=>whnf));(repeat ((first|refine qT ?_|refine qF ?_|refine qO ?_|(with_reducible intro z hz);(first|(replace hz:=hz (by omega);subst hz)|subst hz));(try (conv=>whnf))))
   refine Idx.mk 0 (.int .i64 b.day) _ rfl rfl rfl ?_
   (try (conv=>whnf));(repeat ((first|refine qT ?_|refine qF ?_|refine qO ?_|(with_reducible intro z hz);(first|(replace hz:=hz (by omega);subst hz)|subst hz));(try (conv=>whnf))))
   refine Idx.mk 0 (.int .i64 a.day) _ rfl rfl rfl ?_
   (try (conv=>whnf));(repeat ((first|refine qT ?_|refine qF ?_|refine qO ?_|(with_reducible intro z hz);(first|(replace hz:=hz (by omega);subst hz)|subst hz));(try (conv=>whnf))))
   refine Idx.mk 0 (.int .i64 b.day) _ rfl rfl rfl ?_
   (try (conv=>whnf));(repeat ((first|refine qT ?_|refine qF ?_|refine qO ?_|(with_reducible intro z hz);(first|(replace hz:=hz (by omega);subst hz)|subst hz));(try (conv=>whnf))))
   exact⟨1,⟨by omega,fun _=>h,by omega,by omega⟩,by dsimp only;omega,(qSL 0 rfl rfl)⟩
  ·rw[JU (Ig h) (by decide)]at hfin
   (try (conv=>whnf));(repeat ((first|refine qT ?_|refine qF ?_|refine qO ?_|(with_reducible intro z hz);(first|(replace hz:=hz (by omega);subst hz)|subst hz));(try (conv=>whnf))))
   refine Idx.mk 0 (.int .i64 a.day) _ rfl rfl rfl ?_
   (try (conv=>whnf));(repeat ((first|refine qT ?_|refine qF ?_|refine qO ?_|(with_reducible intro z hz);(first|(replace hz:=hz (by omega);subst hz)|subst hz));(try (conv=>whnf))))
   refine Idx.mk 0 (.int .i64 b.day) _ rfl rfl rfl ?_
   (try (conv=>whnf));(repeat ((first|refine qT ?_|refine qF ?_|refine qO ?_|(with_reducible intro z hz);(first|(replace hz:=hz (by omega);subst hz)|subst hz));(try (conv=>whnf))))
   refine Idx.mk 0 (.int .i64 a.day) _ rfl rfl rfl ?_
   (try (conv=>whnf));(repeat ((first|refine qT ?_|refine qF ?_|refine qO ?_|(with_reducible intro z hz);(first|(replace hz:=hz (by omega);subst hz)|subst hz));(try (conv=>whnf))))
   refine Idx.mk 0 (.int .i64 b.day) _ rfl rfl rfl ?_
   (try (conv=>whnf));(repeat ((first|refine qT ?_|refine qF ?_|refine qO ?_|(with_reducible intro z hz);(first|(replace hz:=hz (by omega);subst hz)|subst hz));(try (conv=>whnf))))
   exact hfin _ (ay.refl _)
 ·have e1:=k1 (by omega)
  rcases Int.lt_trichotomy a.act b.act with h|h|h
  ·rw[Kr e1 (GU h) (by decide)]at hfin
   (try (conv=>whnf));(repeat ((first|refine qT ?_|refine qF ?_|refine qO ?_|(with_reducible intro z hz);(first|(replace hz:=hz (by omega);subst hz)|subst hz));(try (conv=>whnf))))
   refine Idx.mk 1 (.int .i64 a.act) _ rfl rfl rfl ?_
   (try (conv=>whnf));(repeat ((first|refine qT ?_|refine qF ?_|refine qO ?_|(with_reducible intro z hz);(first|(replace hz:=hz (by omega);subst hz)|subst hz));(try (conv=>whnf))))
   refine Idx.mk 1 (.int .i64 b.act) _ rfl rfl rfl ?_
   (try (conv=>whnf));(repeat ((first|refine qT ?_|refine qF ?_|refine qO ?_|(with_reducible intro z hz);(first|(replace hz:=hz (by omega);subst hz)|subst hz));(try (conv=>whnf))))
   exact hfin _ (ay.refl _)
  ·(try (conv=>whnf));(repeat ((first|refine qT ?_|refine qF ?_|refine qO ?_|(with_reducible intro z hz);(first|(replace hz:=hz (by omega);subst hz)|subst hz));(try (conv=>whnf))))
   refine Idx.mk 1 (.int .i64 a.act) _ rfl rfl rfl ?_
   (try (conv=>whnf));(repeat ((first|refine qT ?_|refine qF ?_|refine qO ?_|(with_reducible intro z hz);(first|(replace hz:=hz (by omega);subst hz)|subst hz));(try (conv=>whnf))))
   refine Idx.mk 1 (.int .i64 b.act) _ rfl rfl rfl ?_
   (try (conv=>whnf));(repeat ((first|refine qT ?_|refine qF ?_|refine qO ?_|(with_reducible intro z hz);(first|(replace hz:=hz (by omega);subst hz)|subst hz));(try (conv=>whnf))))
   refine Idx.mk 1 (.int .i64 a.act) _ rfl rfl rfl ?_
   (try (conv=>whnf));(repeat ((first|refine qT ?_|refine qF ?_|refine qO ?_|(with_reducible intro z hz);(first|(replace hz:=hz (by omega);subst hz)|subst hz));(try (conv=>whnf))))
   refine Idx.mk 1 (.int .i64 b.act) _ rfl rfl rfl ?_
   (try (conv=>whnf));(repeat ((first|refine qT ?_|refine qF ?_|refine qO ?_|(with_reducible intro z hz);(first|(replace hz:=hz (by omega);subst hz)|subst hz));(try (conv=>whnf))))
   exact⟨2,⟨by omega,fun _=>e1,fun _=>h,by omega⟩,by dsimp only;omega,(qSL 0 rfl rfl)⟩
  ·rw[Kr e1 (Ig h) (by decide)]at hfin
   (try (conv=>whnf));(repeat ((first|refine qT ?_|refine qF ?_|refine qO ?_|(with_reducible intro z hz);(first|(replace hz:=hz (by omega);subst hz)|subst hz));(try (conv=>whnf))))
   refine Idx.mk 1 (.int .i64 a.act) _ rfl rfl rfl ?_
   (try (conv=>whnf));(repeat ((first|refine qT ?_|refine qF ?_|refine qO ?_|(with_reducible intro z hz);(first|(replace hz:=hz (by omega);subst hz)|subst hz));(try (conv=>whnf))))
   refine Idx.mk 1 (.int .i64 b.act) _ rfl rfl rfl ?_
   (try (conv=>whnf));(repeat ((first|refine qT ?_|refine qF ?_|refine qO ?_|(with_reducible intro z hz);(first|(replace hz:=hz (by omega);subst hz)|subst hz));(try (conv=>whnf))))
   refine Idx.mk 1 (.int .i64 a.act) _ rfl rfl rfl ?_
   (try (conv=>whnf));(repeat ((first|refine qT ?_|refine qF ?_|refine qO ?_|(with_reducible intro z hz);(first|(replace hz:=hz (by omega);subst hz)|subst hz));(try (conv=>whnf))))
   refine Idx.mk 1 (.int .i64 b.act) _ rfl rfl rfl ?_
   (try (conv=>whnf));(repeat ((first|refine qT ?_|refine qF ?_|refine qO ?_|(with_reducible intro z hz);(first|(replace hz:=hz (by omega);subst hz)|subst hz));(try (conv=>whnf))))
   exact hfin _ (ay.refl _)
 ·have e1:=k1 (by omega)
  have e2:=k2 (by omega)
  rcases Int.lt_trichotomy a.item b.item with h|h|h
  ·rw[(xJ e1 e2).trans (GU h)]at hfin
   (try (conv=>whnf));(repeat ((first|refine qT ?_|refine qF ?_|refine qO ?_|(with_reducible intro z hz);(first|(replace hz:=hz (by omega);subst hz)|subst hz));(try (conv=>whnf))))
   refine Idx.mk 2 (.int .i64 a.item) _ rfl rfl rfl ?_
   (try (conv=>whnf));(repeat ((first|refine qT ?_|refine qF ?_|refine qO ?_|(with_reducible intro z hz);(first|(replace hz:=hz (by omega);subst hz)|subst hz));(try (conv=>whnf))))
   refine Idx.mk 2 (.int .i64 b.item) _ rfl rfl rfl ?_
   (try (conv=>whnf));(repeat ((first|refine qT ?_|refine qF ?_|refine qO ?_|(with_reducible intro z hz);(first|(replace hz:=hz (by omega);subst hz)|subst hz));(try (conv=>whnf))))
   exact hfin _ (ay.refl _)
  ·(try (conv=>whnf));(repeat ((first|refine qT ?_|refine qF ?_|refine qO ?_|(with_reducible intro z hz);(first|(replace hz:=hz (by omega);subst hz)|subst hz));(try (conv=>whnf))))
   refine Idx.mk 2 (.int .i64 a.item) _ rfl rfl rfl ?_
   (try (conv=>whnf));(repeat ((first|refine qT ?_|refine qF ?_|refine qO ?_|(with_reducible intro z hz);(first|(replace hz:=hz (by omega);subst hz)|subst hz));(try (conv=>whnf))))
   refine Idx.mk 2 (.int .i64 b.item) _ rfl rfl rfl ?_
   (try (conv=>whnf));(repeat ((first|refine qT ?_|refine qF ?_|refine qO ?_|(with_reducible intro z hz);(first|(replace hz:=hz (by omega);subst hz)|subst hz));(try (conv=>whnf))))
   refine Idx.mk 2 (.int .i64 a.item) _ rfl rfl rfl ?_
   (try (conv=>whnf));(repeat ((first|refine qT ?_|refine qF ?_|refine qO ?_|(with_reducible intro z hz);(first|(replace hz:=hz (by omega);subst hz)|subst hz));(try (conv=>whnf))))
   refine Idx.mk 2 (.int .i64 b.item) _ rfl rfl rfl ?_
   (try (conv=>whnf));(repeat ((first|refine qT ?_|refine qF ?_|refine qO ?_|(with_reducible intro z hz);(first|(replace hz:=hz (by omega);subst hz)|subst hz));(try (conv=>whnf))))
   exact⟨3,⟨by omega,fun _=>e1,fun _=>e2,fun _=>h⟩,by dsimp only;omega,(qSL 0 rfl rfl)⟩
  ·rw[(xJ e1 e2).trans (Ig h)]at hfin
   (try (conv=>whnf));(repeat ((first|refine qT ?_|refine qF ?_|refine qO ?_|(with_reducible intro z hz);(first|(replace hz:=hz (by omega);subst hz)|subst hz));(try (conv=>whnf))))
   refine Idx.mk 2 (.int .i64 a.item) _ rfl rfl rfl ?_
   (try (conv=>whnf));(repeat ((first|refine qT ?_|refine qF ?_|refine qO ?_|(with_reducible intro z hz);(first|(replace hz:=hz (by omega);subst hz)|subst hz));(try (conv=>whnf))))
   refine Idx.mk 2 (.int .i64 b.item) _ rfl rfl rfl ?_
   (try (conv=>whnf));(repeat ((first|refine qT ?_|refine qF ?_|refine qO ?_|(with_reducible intro z hz);(first|(replace hz:=hz (by omega);subst hz)|subst hz));(try (conv=>whnf))))
   refine Idx.mk 2 (.int .i64 a.item) _ rfl rfl rfl ?_
   (try (conv=>whnf));(repeat ((first|refine qT ?_|refine qF ?_|refine qO ?_|(with_reducible intro z hz);(first|(replace hz:=hz (by omega);subst hz)|subst hz));(try (conv=>whnf))))
   refine Idx.mk 2 (.int .i64 b.item) _ rfl rfl rfl ?_
   (try (conv=>whnf));(repeat ((first|refine qT ?_|refine qF ?_|refine qO ?_|(with_reducible intro z hz);(first|(replace hz:=hz (by omega);subst hz)|subst hz));(try (conv=>whnf))))
   exact hfin _ (ay.refl _)
 ·have e1:=k1 (by omega)
  have e2:=k2 (by omega)
  have e3:=k3 (by omega)
  rw[xJ e1 e2,ru e3]at hfin
  (try (conv=>whnf));(repeat ((first|refine qT ?_|refine qF ?_|refine qO ?_|(with_reducible intro z hz);(first|(replace hz:=hz (by omega);subst hz)|subst hz));(try (conv=>whnf))))
  exact hfin _ (ay.refl _)
end Go.Proofs.YtfjibfdelbodjaaGreat.Po
