/-
  slices.Clone of slices of several types: a fresh row of the same elements, whatever came in.
-/
import Derived.Shelf.Slices.Clone
import Derived.Test.YtfjibfdelbodjaaGreatProg
import Derived.Test.YtfjibfdelbodjaaGreatP7
namespace Go.Proofs.YtfjibfdelbodjaaGreat.Po
open Go Go.Pv Go.RowKit
theorem iU:(Tryz.prog.info? 39).map (fun i=>(i.zero,i.size,i.bytes))=some (some (.agg #[.int .i64 0,.int .i64 0,.int .i64 0,.int .i64 0,.string ⟨#[]⟩,.slice none 0 0,.slice none 0 0,.slice none 0 0]),8,120):=by kernel_rfl
theorem iW:(Tryz.prog.info? 213).map (fun i=>(i.zero,i.size,i.bytes))=some (some (.agg #[.string ⟨#[]⟩,.int .i64 0,.int .i64 0,.int .i64 0]),4,40):=by kernel_rfl
theorem iS:(Tryz.prog.info? 119).map (fun i=>(i.zero,i.size,i.bytes))=some (some (.agg #[.int .i64 0,.string ⟨#[]⟩]),2,24):=by kernel_rfl
theorem iT:(Tryz.prog.info? 9).map (fun i=>(i.zero,i.size,i.bytes))=some (some (.string ⟨#[]⟩),1,16):=by kernel_rfl
theorem iI:(Tryz.prog.info? 45).map (fun i=>(i.zero,i.size,i.bytes))=some (some (.agg #[.int .i64 0,.slice none 0 0,.slice none 0 0,.int .i64 0,.int .i64 0,.int .i64 0,.int .i64 0,.int .i64 0,.int .i64 0,.string ⟨#[]⟩,.slice none 0 0,.slice none 0 0,.slice none 0 0,.slice none 0 0,.slice none 0 0,.string ⟨#[]⟩,.string ⟨#[]⟩,.int .i64 0,.int .i64 0,.string ⟨#[]⟩,.int .i64 0,.int .i64 0,.int .i64 0,.string ⟨#[]⟩,.slice none 0 0]),25,368):=by kernel_rfl
theorem qg {Q:Nat→Prop} {w:World} {sz:Nat} {L:List IV} {ad:Addr} (h:0 < L.length→∃b off,some ad=some (⟨b,off,none⟩:Addr)∧Q b∧dA Q w sz b off L) :
  ∃news,aL ⟨fun _=>undef,fun _=>0,Q,fun _=>none⟩ 0 w sz (L.map .imm) news∧∀j u,news[j]?=some u→w.cell? (ad.add j)=some u:=by
 by_cases h0:0 < L.length
 ·obtain⟨b,off,e,_,hr⟩:=h h0
  obtain rfl:=Option.some.inj e
  obtain⟨xs,h1,h2⟩:=oN (w:=w) (kk:=⟨fun _=>undef,fun _=>0,Q,fun _=>none⟩) (n:=0) hr
  exact⟨xs,h1,fun j u hj=>by rw[Addr.add_lit];exact h2 j u hj⟩
 ·have:L=[]:=List.eq_nil_of_length_eq_zero (by omega)
  subst this
  exact⟨[],by simp[aL],fun j u hj=>by simp at hj⟩
theorem gV {Q:Nat→Prop} {w w1:World} {e:TypeId} {sz n b:Nat} {v:Value} {xs:List Value} (hQ:∀b,Q b→b < w.heap.size) (hown:w1.ownsRow w.heap.size e sz v n xs) (h:base v=some b):¬Q b∧b < w1.heap.size:=by
 rcases hown.2 with ⟨rfl,_⟩|⟨g,cap,cur,rfl,h1,h2,_⟩
 ·cases h
 ·obtain rfl:g=b:=Option.some.inj h
  exact⟨fun hq=>absurd (hQ _ hq) (by omega),(Array.getElem?_eq_some_iff.1 h2).1⟩
set_option maxHeartbeats 4000000 in
set_option maxRecDepth 100000 in
theorem GN {X:Env} (L:List IV) (hL:L.length≤1000000000):PCR Tryz.prog X 186 [.sl 8 L] 39 8 L:=by
 refine⟨enters_of Tryz.func186 rfl rfl,fun Q w vs hQ _ _ hvs=>?_⟩
 unfold aV at hvs
 obtain⟨v,r,rfl,h1,h2⟩:=hvs
 unfold aV at h2
 subst h2
 unfold aF at h1
 obtain⟨a,c,rfl,hnc,hcm,hcells⟩:=h1
 have qq:∀(w:World) (a:Option Addr) (n c n' c':Nat),(binOp .eql 37 (.slice a n c) (.slice none n' c')).run Tryz.prog w=.ok (.bool a.isNone) w:=fun w a n c n' c'=>Lib.run_eql_slice_nil w _ _ a n c n' c' Tryz.underlying37
 obtain⟨i0,hi,hz0,hz1,hz2⟩:=info_parts iU
 cases a with
 |none=>
  have h0:L=[]:=List.eq_nil_of_length_eq_zero (by
   rcases Nat.eq_zero_or_pos L.length with h|h
   ·exact h
   ·obtain⟨b,off,e,_⟩:=hcells h;cases e)
  subst h0
  go_enter Tryz.func186,Tryz.ntmps186
  go_wp2
  go_ret
  exact⟨_,Q,[],rfl,Below.refl _ _,fun b h=>h,fun b h=>⟨Or.inl h,hQ b h⟩,⟨rfl,Or.inl ⟨rfl,rfl⟩⟩,by simp[aL],fun b h=>by cases h⟩
 |some ad=>
  obtain⟨news,hE,hc⟩:=qg hcells
  obtain⟨hl,h1⟩:=bW hE
  rw[List.length_map]at hl
  clear hcells
  have hb8:(0+L.length)*120≤140737488355328:=by omega
  generalize hn:L.length=n at *
  go_enter Tryz.func186,Tryz.ntmps186
  go_wp2_with (at_builtin;refine wpList_append_own _ rfl _ _ 37 rfl w.heap.size 39 i0 _ 8 120 Tryz.underlying37 hi hz0 hz1 hz2 rfl (by decide) _ _ _ rfl (World.ownsRow_made w #[] 0 (Nat.le_refl _) (Nat.zero_le _) rfl) ad n c news rfl hl ?qc2 h1 ?qc4 hb8 ?qc6 ?_)
  case qc2=>
   intro j u hj
   exact Lib.cell?_alloc_some _ (hc j u hj)
  case qc4=>unfold maxLen;omega
  case qc6=>simp
  intro v' w1 hown hgrow hnil
  go_wp2
  go_ret
  have hb:Below w.heap.size w w1:=((Below.refl _ w).alloc (Nat.le_refl _) _).grown hgrow (by simp) (by intro k hk;simp[Value.ownBlock]at hk;omega)
  have hown':w1.ownsRow w.heap.size 39 8 v' n news:=by simpa using hown
  exact⟨v',Q,news,rfl,hb,fun b h=>h,fun b h=>⟨Or.inl h,Nat.lt_of_lt_of_le (hQ b h) hb.size⟩,hown',bf ⟨Nat.le_refl _,fun b h=>⟨h,hb.block b (hQ b h)⟩,fun r h=>absurd h (Nat.not_lt_zero r)⟩ _ _ hE,fun b h=>gV hQ hown' h⟩
set_option maxHeartbeats 4000000 in
set_option maxRecDepth 100000 in
theorem vX {X:Env} (L:List IV) (hL:L.length≤1000000000):PCR Tryz.prog X 185 [.sl 4 L] 213 4 L:=by
 refine⟨enters_of Tryz.func185 rfl rfl,fun Q w vs hQ _ _ hvs=>?_⟩
 unfold aV at hvs
 obtain⟨v,r,rfl,h1,h2⟩:=hvs
 unfold aV at h2
 subst h2
 unfold aF at h1
 obtain⟨a,c,rfl,hnc,hcm,hcells⟩:=h1
 have qq:∀(w:World) (a:Option Addr) (n c n' c':Nat),(binOp .eql 36 (.slice a n c) (.slice none n' c')).run Tryz.prog w=.ok (.bool a.isNone) w:=fun w a n c n' c'=>Lib.run_eql_slice_nil w _ _ a n c n' c' Tryz.underlying36
 obtain⟨i0,hi,hz0,hz1,hz2⟩:=info_parts iW
 cases a with
 |none=>
  have h0:L=[]:=List.eq_nil_of_length_eq_zero (by
   rcases Nat.eq_zero_or_pos L.length with h|h
   ·exact h
   ·obtain⟨b,off,e,_⟩:=hcells h;cases e)
  subst h0
  go_enter Tryz.func185,Tryz.ntmps185
  go_wp2
  go_ret
  exact⟨_,Q,[],rfl,Below.refl _ _,fun b h=>h,fun b h=>⟨Or.inl h,hQ b h⟩,⟨rfl,Or.inl ⟨rfl,rfl⟩⟩,by simp[aL],fun b h=>by cases h⟩
 |some ad=>
  obtain⟨news,hE,hc⟩:=qg hcells
  obtain⟨hl,h1⟩:=bW hE
  rw[List.length_map]at hl
  clear hcells
  have hb8:(0+L.length)*40≤140737488355328:=by omega
  generalize hn:L.length=n at *
  go_enter Tryz.func185,Tryz.ntmps185
  go_wp2_with (at_builtin;refine wpList_append_own _ rfl _ _ 36 rfl w.heap.size 213 i0 _ 4 40 Tryz.underlying36 hi hz0 hz1 hz2 rfl (by decide) _ _ _ rfl (World.ownsRow_made w #[] 0 (Nat.le_refl _) (Nat.zero_le _) rfl) ad n c news rfl hl ?qc2 h1 ?qc4 hb8 ?qc6 ?_)
  case qc2=>
   intro j u hj
   exact Lib.cell?_alloc_some _ (hc j u hj)
  case qc4=>unfold maxLen;omega
  case qc6=>simp
  intro v' w1 hown hgrow hnil
  go_wp2
  go_ret
  have hb:Below w.heap.size w w1:=((Below.refl _ w).alloc (Nat.le_refl _) _).grown hgrow (by simp) (by intro k hk;simp[Value.ownBlock]at hk;omega)
  have hown':w1.ownsRow w.heap.size 213 4 v' n news:=by simpa using hown
  exact⟨v',Q,news,rfl,hb,fun b h=>h,fun b h=>⟨Or.inl h,Nat.lt_of_lt_of_le (hQ b h) hb.size⟩,hown',bf ⟨Nat.le_refl _,fun b h=>⟨h,hb.block b (hQ b h)⟩,fun r h=>absurd h (Nat.not_lt_zero r)⟩ _ _ hE,fun b h=>gV hQ hown' h⟩
set_option maxHeartbeats 4000000 in
set_option maxRecDepth 100000 in
theorem xw {X:Env} (L:List IV) (hL:L.length≤1000000000):PCR Tryz.prog X 150 [.sl 2 L] 119 2 L:=by
 refine⟨enters_of Tryz.func150 rfl rfl,fun Q w vs hQ _ _ hvs=>?_⟩
 unfold aV at hvs
 obtain⟨v,r,rfl,h1,h2⟩:=hvs
 unfold aV at h2
 subst h2
 unfold aF at h1
 obtain⟨a,c,rfl,hnc,hcm,hcells⟩:=h1
 have qq:∀(w:World) (a:Option Addr) (n c n' c':Nat),(binOp .eql 33 (.slice a n c) (.slice none n' c')).run Tryz.prog w=.ok (.bool a.isNone) w:=fun w a n c n' c'=>Lib.run_eql_slice_nil w _ _ a n c n' c' Tryz.underlying33
 obtain⟨i0,hi,hz0,hz1,hz2⟩:=info_parts iS
 cases a with
 |none=>
  have h0:L=[]:=List.eq_nil_of_length_eq_zero (by
   rcases Nat.eq_zero_or_pos L.length with h|h
   ·exact h
   ·obtain⟨b,off,e,_⟩:=hcells h;cases e)
  subst h0
  go_enter Tryz.func150,Tryz.ntmps150
  go_wp2
  go_ret
  exact⟨_,Q,[],rfl,Below.refl _ _,fun b h=>h,fun b h=>⟨Or.inl h,hQ b h⟩,⟨rfl,Or.inl ⟨rfl,rfl⟩⟩,by simp[aL],fun b h=>by cases h⟩
 |some ad=>
  obtain⟨news,hE,hc⟩:=qg hcells
  obtain⟨hl,h1⟩:=bW hE
  rw[List.length_map]at hl
  clear hcells
  have hb8:(0+L.length)*24≤140737488355328:=by omega
  generalize hn:L.length=n at *
  go_enter Tryz.func150,Tryz.ntmps150
  go_wp2_with (at_builtin;refine wpList_append_own _ rfl _ _ 33 rfl w.heap.size 119 i0 _ 2 24 Tryz.underlying33 hi hz0 hz1 hz2 rfl (by decide) _ _ _ rfl (World.ownsRow_made w #[] 0 (Nat.le_refl _) (Nat.zero_le _) rfl) ad n c news rfl hl ?qc2 h1 ?qc4 hb8 ?qc6 ?_)
  case qc2=>
   intro j u hj
   exact Lib.cell?_alloc_some _ (hc j u hj)
  case qc4=>unfold maxLen;omega
  case qc6=>simp
  intro v' w1 hown hgrow hnil
  go_wp2
  go_ret
  have hb:Below w.heap.size w w1:=((Below.refl _ w).alloc (Nat.le_refl _) _).grown hgrow (by simp) (by intro k hk;simp[Value.ownBlock]at hk;omega)
  have hown':w1.ownsRow w.heap.size 119 2 v' n news:=by simpa using hown
  exact⟨v',Q,news,rfl,hb,fun b h=>h,fun b h=>⟨Or.inl h,Nat.lt_of_lt_of_le (hQ b h) hb.size⟩,hown',bf ⟨Nat.le_refl _,fun b h=>⟨h,hb.block b (hQ b h)⟩,fun r h=>absurd h (Nat.not_lt_zero r)⟩ _ _ hE,fun b h=>gV hQ hown' h⟩
set_option maxHeartbeats 4000000 in
set_option maxRecDepth 100000 in
theorem xu {X:Env} (L:List IV) (hL:L.length≤1000000000):PCR Tryz.prog X 151 [.sl 1 L] 9 1 L:=by
 refine⟨enters_of Tryz.func151 rfl rfl,fun Q w vs hQ _ _ hvs=>?_⟩
 unfold aV at hvs
 obtain⟨v,r,rfl,h1,h2⟩:=hvs
 unfold aV at h2
 subst h2
 unfold aF at h1
 obtain⟨a,c,rfl,hnc,hcm,hcells⟩:=h1
 have qq:∀(w:World) (a:Option Addr) (n c n' c':Nat),(binOp .eql 40 (.slice a n c) (.slice none n' c')).run Tryz.prog w=.ok (.bool a.isNone) w:=fun w a n c n' c'=>Lib.run_eql_slice_nil w _ _ a n c n' c' Tryz.underlying40
 obtain⟨i0,hi,hz0,hz1,hz2⟩:=info_parts iT
 cases a with
 |none=>
  have h0:L=[]:=List.eq_nil_of_length_eq_zero (by
   rcases Nat.eq_zero_or_pos L.length with h|h
   ·exact h
   ·obtain⟨b,off,e,_⟩:=hcells h;cases e)
  subst h0
  go_enter Tryz.func151,Tryz.ntmps151
  go_wp2
  go_ret
  exact⟨_,Q,[],rfl,Below.refl _ _,fun b h=>h,fun b h=>⟨Or.inl h,hQ b h⟩,⟨rfl,Or.inl ⟨rfl,rfl⟩⟩,by simp[aL],fun b h=>by cases h⟩
 |some ad=>
  obtain⟨news,hE,hc⟩:=qg hcells
  obtain⟨hl,h1⟩:=bW hE
  rw[List.length_map]at hl
  clear hcells
  have hb8:(0+L.length)*16≤140737488355328:=by omega
  generalize hn:L.length=n at *
  go_enter Tryz.func151,Tryz.ntmps151
  go_wp2_with (at_builtin;refine wpList_append_own _ rfl _ _ 40 rfl w.heap.size 9 i0 _ 1 16 Tryz.underlying40 hi hz0 hz1 hz2 rfl (by decide) _ _ _ rfl (World.ownsRow_made w #[] 0 (Nat.le_refl _) (Nat.zero_le _) rfl) ad n c news rfl hl ?qc2 h1 ?qc4 hb8 ?qc6 ?_)
  case qc2=>
   intro j u hj
   exact Lib.cell?_alloc_some _ (hc j u hj)
  case qc4=>unfold maxLen;omega
  case qc6=>simp
  intro v' w1 hown hgrow hnil
  go_wp2
  go_ret
  have hb:Below w.heap.size w w1:=((Below.refl _ w).alloc (Nat.le_refl _) _).grown hgrow (by simp) (by intro k hk;simp[Value.ownBlock]at hk;omega)
  have hown':w1.ownsRow w.heap.size 9 1 v' n news:=by simpa using hown
  exact⟨v',Q,news,rfl,hb,fun b h=>h,fun b h=>⟨Or.inl h,Nat.lt_of_lt_of_le (hQ b h) hb.size⟩,hown',bf ⟨Nat.le_refl _,fun b h=>⟨h,hb.block b (hQ b h)⟩,fun r h=>absurd h (Nat.not_lt_zero r)⟩ _ _ hE,fun b h=>gV hQ hown' h⟩
set_option maxHeartbeats 4000000 in
set_option maxRecDepth 100000 in
theorem yB {X:Env} (L:List IV) (hL:L.length≤1000000000):PCR Tryz.prog X 123 [.sl 25 L] 45 25 L:=by
 refine⟨enters_of Tryz.func123 rfl rfl,fun Q w vs hQ _ _ hvs=>?_⟩
 unfold aV at hvs
 obtain⟨v,r,rfl,h1,h2⟩:=hvs
 unfold aV at h2
 subst h2
 unfold aF at h1
 obtain⟨a,c,rfl,hnc,hcm,hcells⟩:=h1
 have qq:∀(w:World) (a:Option Addr) (n c n' c':Nat),(binOp .eql 43 (.slice a n c) (.slice none n' c')).run Tryz.prog w=.ok (.bool a.isNone) w:=fun w a n c n' c'=>Lib.run_eql_slice_nil w _ _ a n c n' c' Tryz.underlying43
 obtain⟨i0,hi,hz0,hz1,hz2⟩:=info_parts iI
 cases a with
 |none=>
  have h0:L=[]:=List.eq_nil_of_length_eq_zero (by
   rcases Nat.eq_zero_or_pos L.length with h|h
   ·exact h
   ·obtain⟨b,off,e,_⟩:=hcells h;cases e)
  subst h0
  go_enter Tryz.func123,Tryz.ntmps123
  go_wp2
  go_ret
  exact⟨_,Q,[],rfl,Below.refl _ _,fun b h=>h,fun b h=>⟨Or.inl h,hQ b h⟩,⟨rfl,Or.inl ⟨rfl,rfl⟩⟩,by simp[aL],fun b h=>by cases h⟩
 |some ad=>
  obtain⟨news,hE,hc⟩:=qg hcells
  obtain⟨hl,h1⟩:=bW hE
  rw[List.length_map]at hl
  clear hcells
  have hb8:(0+L.length)*368≤140737488355328:=by omega
  generalize hn:L.length=n at *
  go_enter Tryz.func123,Tryz.ntmps123
  go_wp2_with (at_builtin;refine wpList_append_own _ rfl _ _ 43 rfl w.heap.size 45 i0 _ 25 368 Tryz.underlying43 hi hz0 hz1 hz2 rfl (by decide) _ _ _ rfl (World.ownsRow_made w #[] 0 (Nat.le_refl _) (Nat.zero_le _) rfl) ad n c news rfl hl ?qc2 h1 ?qc4 hb8 ?qc6 ?_)
  case qc2=>
   intro j u hj
   exact Lib.cell?_alloc_some _ (hc j u hj)
  case qc4=>unfold maxLen;omega
  case qc6=>simp
  intro v' w1 hown hgrow hnil
  go_wp2
  go_ret
  have hb:Below w.heap.size w w1:=((Below.refl _ w).alloc (Nat.le_refl _) _).grown hgrow (by simp) (by intro k hk;simp[Value.ownBlock]at hk;omega)
  have hown':w1.ownsRow w.heap.size 45 25 v' n news:=by simpa using hown
  exact⟨v',Q,news,rfl,hb,fun b h=>h,fun b h=>⟨Or.inl h,Nat.lt_of_lt_of_le (hQ b h) hb.size⟩,hown',bf ⟨Nat.le_refl _,fun b h=>⟨h,hb.block b (hQ b h)⟩,fun r h=>absurd h (Nat.not_lt_zero r)⟩ _ _ hE,fun b h=>gV hQ hown' h⟩
end Go.Proofs.YtfjibfdelbodjaaGreat.Po
