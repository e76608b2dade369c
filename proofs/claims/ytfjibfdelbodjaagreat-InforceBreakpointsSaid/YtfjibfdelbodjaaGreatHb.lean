/-
  Corpus: enacted items as plain values, as they come in; legal order, by the program and by the reference; the law of it. The reference's legal order; the law of it.
-/
import Derived.Test.YtfjibfdelbodjaaGreatWBa
namespace Go.Proofs.YtfjibfdelbodjaaGreat.Po
open Go Go.Pv Go.RowKit
set_option linter.unusedSimpArgs false
set_option maxRecDepth 10000
set_option maxHeartbeats 16000000
structure St where
 k:Int
 d:Int
 e:ByteArray
structure Im where
 kind:Int
 m:Nat→IV
 st:St
 a:Int
 i:Int
 d:Int
 ev:ByteArray
 b:IV
structure En where
 act:Int
 item:Int
 day:Int
 it:Im
def stv (x:St):IV:=.agg [.int .i64 x.k,.int .i64 x.d,.str x.e]
def imv (x:Im):IV:=.agg [.int .i64 x.kind,x.m 1,x.m 2,x.m 3,x.m 4,x.m 5,x.m 6,x.m 7,x.m 8,x.m 9,x.m 10,x.m 11,x.m 12,x.m 13,x.m 14,x.m 15,x.m 16,.int .i64 x.st.k,.int .i64 x.st.d,.str x.st.e,.int .i64 x.a,.int .i64 x.i,.int .i64 x.d,.str x.ev,x.b]
def cu (x:En):IV:=.agg [.int .i64 x.act,.int .i64 x.item,.int .i64 x.day,.int .i64 x.it.kind,x.it.m 1,x.it.m 2,x.it.m 3,x.it.m 4,x.it.m 5,x.it.m 6,x.it.m 7,x.it.m 8,x.it.m 9,x.it.m 10,x.it.m 11,x.it.m 12,x.it.m 13,x.it.m 14,x.it.m 15,x.it.m 16,.int .i64 x.it.st.k,.int .i64 x.it.st.d,.str x.it.st.e,.int .i64 x.it.a,.int .i64 x.it.i,.int .i64 x.it.d,.str x.it.ev,x.it.b]
def S0:List TypeId:=[3,9,35,211,213,36,39,37,119,33,40,42,45,43,47]
def Rt (x:St):Prop:=x.e.size≤maxLen
theorem Dl {is:List IV} (h:OkC Tryz.prog 42 is):∃x:St,is=[.int .i64 x.k,.int .i64 x.d,.str x.e]∧Rt x:=by
 obtain⟨parts,rfl,hl,hp⟩:=h.fQ Tryz.underlying42
 match parts,hl with
 |[p0,p1,p2],_=>
  obtain⟨k,rfl,_⟩:=(hp 0 _ _ rfl rfl).bT Tryz.underlying3
  obtain⟨d,rfl,_⟩:=(hp 1 _ _ rfl rfl).bT Tryz.underlying3
  obtain⟨e,rfl,h0⟩:=(hp 2 _ _ rfl rfl).fF Tryz.underlying9
  exact⟨⟨k,d,e⟩,rfl,h0⟩
section
variable {H:Type} {enc:TypeId×Value→H} {w:World} {bs:Nat} {spare:Nat→Bool} {held:Bool}
end
theorem mo (x:En):cu x=.agg [.int .i64 x.act,.int .i64 x.item,.int .i64 x.day,.int .i64 x.it.kind,x.it.m 1,x.it.m 2,x.it.m 3,x.it.m 4,x.it.m 5,x.it.m 6,x.it.m 7,x.it.m 8,x.it.m 9,x.it.m 10,x.it.m 11,x.it.m 12,x.it.m 13,x.it.m 14,x.it.m 15,x.it.m 16,.int .i64 x.it.st.k,.int .i64 x.it.st.d,.str x.it.st.e,.int .i64 x.it.a,.int .i64 x.it.i,.int .i64 x.it.d,.str x.it.ev,x.it.b]:=rfl
def fV (a b:Int):Int:=if a < b then -1 else if b < a then 1 else 0
def R3 (a b:En):Int:=if fV a.day b.day≠0 then fV a.day b.day else if fV a.act b.act≠0 then fV a.act b.act else fV a.item b.item
theorem Nr (x:Int):PC Tryz.prog aM 94 [.int .i64 x] [.bool false]:=by
 refine PC.aj (T:=tb0) ay aH rfl mixed Tryz.func94 rfl rfl (Nat.le_of_ble_eq_true rfl) ?_;intro Γ C WK LP fin h0 hW hC hB hR hLP hfin
 (try (conv=>whnf));(repeat ((first|refine qT ?_|refine qF ?_|refine qO ?_|(with_reducible intro z hz);(first|(replace hz:=hz (by omega);subst hz)|subst hz));(try (conv=>whnf))))
 exact hfin _ (aA.refl _)
theorem Gl (a b:Int):PC Tryz.prog aM 97 [.int .i64 a,.int .i64 b] [.int .i64 (fV a b)]:=by
 have h1:=Nr a
 have h2:=Nr b
 unfold fV
 by_cases c1:a < b
 ·rw[if_pos c1]
  refine PC.aj (T:=tb0) ay aH rfl mixed Tryz.func97 rfl rfl (Nat.le_of_ble_eq_true rfl) ?_;intro Γ C WK LP fin h0 hW hC hB hR hLP hfin
  (try (conv=>whnf));(repeat ((first|refine qT ?_|refine qF ?_|refine qO ?_|(with_reducible intro z hz);(first|(replace hz:=hz (by omega);subst hz)|subst hz)|(refine ah.mk _ (hC _ _ _ (PCw.of h1)) (fun js hjs=>?_);subst hjs)|(refine ah.mk _ (hC _ _ _ (PCw.of h2)) (fun js hjs=>?_);subst hjs));(try (conv=>whnf))))
  exact hfin _ (aA.refl _)
 rw[if_neg c1]
 by_cases c2:b < a
 ·rw[if_pos c2]
  refine PC.aj (T:=tb0) ay aH rfl mixed Tryz.func97 rfl rfl (Nat.le_of_ble_eq_true rfl) ?_;intro Γ C WK LP fin h0 hW hC hB hR hLP hfin
  (try (conv=>whnf));(repeat ((first|refine qT ?_|refine qF ?_|refine qO ?_|(with_reducible intro z hz);(first|(replace hz:=hz (by omega);subst hz)|subst hz)|(refine ah.mk _ (hC _ _ _ (PCw.of h1)) (fun js hjs=>?_);subst hjs)|(refine ah.mk _ (hC _ _ _ (PCw.of h2)) (fun js hjs=>?_);subst hjs));(try (conv=>whnf))))
  exact hfin _ (aA.refl _)
 ·rw[if_neg c2]
  refine PC.aj (T:=tb0) ay aH rfl mixed Tryz.func97 rfl rfl (Nat.le_of_ble_eq_true rfl) ?_;intro Γ C WK LP fin h0 hW hC hB hR hLP hfin
  (try (conv=>whnf));(repeat ((first|refine qT ?_|refine qF ?_|refine qO ?_|(with_reducible intro z hz);(first|(replace hz:=hz (by omega);subst hz)|subst hz)|(refine ah.mk _ (hC _ _ _ (PCw.of h1)) (fun js hjs=>?_);subst hjs)|(refine ah.mk _ (hC _ _ _ (PCw.of h2)) (fun js hjs=>?_);subst hjs));(try (conv=>whnf))))
  exact hfin _ (aA.refl _)
def orZ (x y z:Int):Int:=if x≠0 then x else if y≠0 then y else z
theorem SY (x y z:Int):PC Tryz.prog aM 126 [.sl 1 [.int .i64 x,.int .i64 y,.int .i64 z]] [.int .i64 (orZ x y z)]:=by
 refine PC.aj (T:=tb0) ay aH rfl mixed Tryz.func126 rfl rfl (Nat.le_of_ble_eq_true rfl) ?_;intro Γ C WK LP fin h0 hW hC hB hR hLP hfin
 (try (conv=>whnf));(repeat ((first|refine qT ?_|refine qF ?_|refine qO ?_|(with_reducible intro z hz);(first|(replace hz:=hz (by omega);subst hz)|subst hz));(try (conv=>whnf))))
 refine hLP _ _ _ Nat (fun k=>⟨[(3,.imm (.int .i64 0)),(6,.imm (.sl 1 [.int .i64 x,.int .i64 y,.int .i64 z])),(7,.imm (.int .i64 3)),(8,.imm (.int .i64 (k:Nat)))],[]⟩) (fun k=>k≤3∧(0 < k→x=0)∧(1 < k→y=0)∧(2 < k→z=0)) (fun k=>3 - k) 0 ⟨by omega,by omega,by omega,by omega⟩ (qSL 0 rfl rfl) ?_
 rintro k ⟨hk,k1,k2,k3⟩
 have hc:k=0∨k=1∨k=2∨k=3:=by omega
 rcases hc with rfl|rfl|rfl|rfl
 ·by_cases hx:x=0
  ·(try (conv=>whnf));(repeat ((first|refine qT ?_|refine qF ?_|refine qO ?_|(with_reducible intro z hz);(first|(replace hz:=hz (by omega);subst hz)|subst hz));(try (conv=>whnf))))
   refine Idx.mk 0 (.int .i64 x) _ rfl rfl rfl ?_
   (try (conv=>whnf));(repeat ((first|refine qT ?_|refine qF ?_|refine qO ?_|(with_reducible intro z hz);(first|(replace hz:=hz (by omega);subst hz)|subst hz));(try (conv=>whnf))))
   exact⟨1,⟨by omega,fun _=>hx,by omega,by omega⟩,by dsimp only;omega,(qSL 0 rfl rfl)⟩
  ·rw[orZ,if_pos hx]at hfin
   (try (conv=>whnf));(repeat ((first|refine qT ?_|refine qF ?_|refine qO ?_|(with_reducible intro z hz);(first|(replace hz:=hz (by omega);subst hz)|subst hz));(try (conv=>whnf))))
   refine Idx.mk 0 (.int .i64 x) _ rfl rfl rfl ?_
   (try (conv=>whnf));(repeat ((first|refine qT ?_|refine qF ?_|refine qO ?_|(with_reducible intro z hz);(first|(replace hz:=hz (by omega);subst hz)|subst hz));(try (conv=>whnf))))
   exact hfin _ (aA.refl _)
 ·have hx:=k1 (by omega)
  by_cases hy:y=0
  ·(try (conv=>whnf));(repeat ((first|refine qT ?_|refine qF ?_|refine qO ?_|(with_reducible intro z hz);(first|(replace hz:=hz (by omega);subst hz)|subst hz));(try (conv=>whnf))))
   refine Idx.mk 1 (.int .i64 y) _ rfl rfl rfl ?_
   (try (conv=>whnf));(repeat ((first|refine qT ?_|refine qF ?_|refine qO ?_|(with_reducible intro z hz);(first|(replace hz:=hz (by omega);subst hz)|subst hz));(try (conv=>whnf))))
   exact⟨2,⟨by omega,fun _=>hx,fun _=>hy,by omega⟩,by dsimp only;omega,(qSL 0 rfl rfl)⟩
  ·rw[orZ,if_neg (by simpa using hx),if_pos hy]at hfin
   (try (conv=>whnf));(repeat ((first|refine qT ?_|refine qF ?_|refine qO ?_|(with_reducible intro z hz);(first|(replace hz:=hz (by omega);subst hz)|subst hz));(try (conv=>whnf))))
   refine Idx.mk 1 (.int .i64 y) _ rfl rfl rfl ?_
   (try (conv=>whnf));(repeat ((first|refine qT ?_|refine qF ?_|refine qO ?_|(with_reducible intro z hz);(first|(replace hz:=hz (by omega);subst hz)|subst hz));(try (conv=>whnf))))
   exact hfin _ (aA.refl _)
 ·have hx:=k1 (by omega)
  have hy:=k2 (by omega)
  by_cases hz:z=0
  ·(try (conv=>whnf));(repeat ((first|refine qT ?_|refine qF ?_|refine qO ?_|(with_reducible intro z hz);(first|(replace hz:=hz (by omega);subst hz)|subst hz));(try (conv=>whnf))))
   refine Idx.mk 2 (.int .i64 z) _ rfl rfl rfl ?_
   (try (conv=>whnf));(repeat ((first|refine qT ?_|refine qF ?_|refine qO ?_|(with_reducible intro z hz);(first|(replace hz:=hz (by omega);subst hz)|subst hz));(try (conv=>whnf))))
   exact⟨3,⟨by omega,fun _=>hx,fun _=>hy,fun _=>hz⟩,by dsimp only;omega,(qSL 0 rfl rfl)⟩
  ·rw[orZ,if_neg (by simpa using hx),if_neg (by simpa using hy)]at hfin
   (try (conv=>whnf));(repeat ((first|refine qT ?_|refine qF ?_|refine qO ?_|(with_reducible intro z hz);(first|(replace hz:=hz (by omega);subst hz)|subst hz));(try (conv=>whnf))))
   refine Idx.mk 2 (.int .i64 z) _ rfl rfl rfl ?_
   (try (conv=>whnf));(repeat ((first|refine qT ?_|refine qF ?_|refine qO ?_|(with_reducible intro z hz);(first|(replace hz:=hz (by omega);subst hz)|subst hz));(try (conv=>whnf))))
   exact hfin _ (aA.refl _)
 ·have hx:=k1 (by omega)
  have hy:=k2 (by omega)
  have hz:=k3 (by omega)
  rw[orZ,if_neg (by simpa using hx),if_neg (by simpa using hy),hz]at hfin
  (try (conv=>whnf));(repeat ((first|refine qT ?_|refine qF ?_|refine qO ?_|(with_reducible intro z hz);(first|(replace hz:=hz (by omega);subst hz)|subst hz));(try (conv=>whnf))))
  exact hfin _ (aA.refl _)
theorem vL (a b:En):PC Tryz.prog aM 80 [cu a,cu b] [.int .i64 (R3 a b)]:=by
 have h1:=Gl a.day b.day
 have h2:=Gl a.act b.act
 have h3:=Gl a.item b.item
 have h4:=SY (fV a.day b.day) (fV a.act b.act) (fV a.item b.item)
 have he:orZ (fV a.day b.day) (fV a.act b.act) (fV a.item b.item)=R3 a b:=rfl
 rw[he]at h4
 clear he
 generalize R3 a b=r at *
 generalize fV a.day b.day=x at *
 generalize fV a.act b.act=y at *
 generalize fV a.item b.item=z at *
 rw[mo a,mo b]
 refine PC.aj (T:=tb0) ay aH rfl mixed Tryz.func80 rfl rfl (Nat.le_of_ble_eq_true rfl) ?_;intro Γ C WK LP fin h0 hW hC hB hR hLP hfin
 (try (conv=>whnf));(repeat ((first|refine qT ?_|refine qF ?_|refine qO ?_|(with_reducible intro z hz);(first|(replace hz:=hz (by omega);subst hz)|subst hz)|(refine ah.mk _ (hC _ _ _ (PCw.of h1)) (fun js hjs=>?_);subst hjs)|(refine ah.mk _ (hC _ _ _ (PCw.of h2)) (fun js hjs=>?_);subst hjs)|(refine ah.mk _ (hC _ _ _ (PCw.of h3)) (fun js hjs=>?_);subst hjs));(try (conv=>whnf))))
 refine bN.mk [.int .i64 x,.int .i64 y,.int .i64 z] rfl ?_
 (try (conv=>whnf));(repeat ((first|refine qT ?_|refine qF ?_|refine qO ?_|(with_reducible intro z hz);(first|(replace hz:=hz (by omega);subst hz)|subst hz)|(refine ah.mk _ (hC _ _ _ (PCw.of h4)) (fun js hjs=>?_);subst hjs));(try (conv=>whnf))))
 exact hfin _ (aA.refl _)
end Go.Proofs.YtfjibfdelbodjaaGreat.Po
namespace Go.Proofs.YtfjibfdelbodjaaGreat.Po
open Go Go.Pv Go.RowKit
set_option linter.unusedSimpArgs false
set_option maxRecDepth 10000
set_option maxHeartbeats 16000000
end Go.Proofs.YtfjibfdelbodjaaGreat.Po
