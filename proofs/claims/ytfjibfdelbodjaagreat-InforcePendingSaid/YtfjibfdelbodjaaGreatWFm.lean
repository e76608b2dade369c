/-
  In force: the purposes; their law.
-/
import Derived.Shelf.Sort.Plain
import Derived.Shelf.Slices.In.SortNone
import Derived.Test.YtfjibfdelbodjaaGreatFe
import Derived.Test.YtfjibfdelbodjaaGreatSoo
import Derived.Test.YtfjibfdelbodjaaGreatSrt
namespace Go.Proofs.YtfjibfdelbodjaaGreat.Po
open Go Go.Pv Go.RowKit
set_option linter.unusedSimpArgs false
open Lab Lcs Go.Proofs.YtfjibfdelbodjaaGreat Go.Proofs.YtfjibfdelbodjaaGreat.Pu
set_option maxRecDepth 10000
set_option maxHeartbeats 32000000
namespace F
theorem UQ:Q8 Go.Proofs.encStr (fun b:List UInt8=>IV.str ⟨b.toArray⟩) where
 one _:=rfl
 cells _:=rfl
 rep Q w x v:=by unfold aF;exact Iff.rfl
def toL (s:Str):List UInt8:=s.data.toList
def ofL (b:List UInt8):Str:=⟨b.toArray⟩
theorem UE (s:Str):ofL (toL s)=s:=rfl
def UY (l:List (List UInt8)):List (List UInt8):=l.mergeSort fun x y=>decide (x≤y)
def Ue (l:List Str):List Str:=(UY (l.map toL)).map ofL
theorem Uq (l:List Str):(Ue l).length=l.length:=by unfold Ue UY;rw[List.length_map,List.length_mergeSort,List.length_map]
theorem UF (l:List Str):(Ue l).Perm l:=by
 have h:=(List.mergeSort_perm (l.map toL) fun x y=>decide (x≤y)).map ofL
 rw[List.map_map]at h
 have e:(ofL ∘ toL:Str→Str)=id:=funext fun s=>rfl
 rw[e,List.map_id]at h
 exact h
abbrev rwS (g:Nat) (l:List Str):Blk:=.row 9 1 g ((l.map IV.str).map .imm)
abbrev Ux (g:Nat) (l:List Str):CBk:=.row 9 1 g (l.map IV.str)
theorem UJ (L:List Str) (hL:L.length≤1000000000):PCB Tryz.prog aM 49 [.row 0 1] [rwS 1 L] [] [rwS 1 (Ue L)]:=by
 have h:=Kl (P:=Tryz.prog) (X:=aM) (e:=9) UQ UY (fun l=>List.length_mergeSort l) (enters_of Tryz.func49 rfl rfl)
  (fun w blk cap l hH hb hl=>by
   have hcon:=Go.Proofs.Any.slices_Sort_string Tryz.sortS blk 0 cap l w hH hb (by unfold most at hl;omega)
   change Calls Tryz.prog 49 _ _ _ at hcon
   exact hcon)
  (fun p cap w=>by
   have hcon:=Go.Proofs.Any.slices_Sort_string_none Tryz.sortS p cap w
   change Calls Tryz.prog 49 _ _ _ at hcon
   exact hcon)
  (L.map toL) (by unfold most;rw[List.length_map];exact hL)
 have e1:(L.map toL).map (fun b:List UInt8=>IV.str ⟨b.toArray⟩)=L.map IV.str:=by rw[List.map_map];rfl
 have e2:(UY (L.map toL)).map (fun b:List UInt8=>IV.str ⟨b.toArray⟩)=(Ue L).map IV.str:=by unfold Ue;rw[List.map_map];rfl
 rw[e1,e2]at h
 exact h
def Uu (d:Ei):Bool:=!decide (d.it.fr=⟨#[]⟩)
def puL (L:List Ei):List Str:=((amL L).filter Uu).map fun d=>d.it.fr
theorem UR {L:List Ei} {k:Nat} {d:Ei} (h:L[k]?=some d):puL (L.take (k+1))=if chB d.it.kind=true then (if Uu d=true then puL (L.take k)++[d.it.fr] else puL (L.take k)) else puL (L.take k):=by
 unfold puL
 rw[xJ h]
 cases chB d.it.kind with
 |true=>
  rw[if_pos rfl,if_pos rfl,List.filter_append]
  cases hb:Uu d<;>simp[List.filter_cons,hb]
 |false=>rfl
theorem Ui (L:List Ei):(puL L).length≤L.length:=by
 unfold puL
 rw[List.length_map]
 exact Nat.le_trans (List.length_filter_le _ _) (List.length_filter_le _ _)
theorem U3 (d:Ei) (R:List Spans.Sp) (es:List Str) (he:es.length≤1000):PCB Tryz.prog aM 48 [.imm (eiv d),.imm (.sl 2 (R.map Pe.spv)),.ptr 0 1 0] [.box 1 [.row 1 1],rwS 1 es] [] [.box 1 [.row 1 2],rwS 2 (if Uu d=true then es++[d.it.fr] else es)]:=by
 unfold Uu
 have hel:((es.map IV.str).map PV.imm).length=es.length:=by simp
 rw[show eiv d=IV.agg _ from rfl]
 by_cases h1:d.it.fr=⟨#[]⟩
 ·rw[decide_eq_true h1,Bool.not_true,if_neg (by simp)]
  refine PCB.aj (T:=dZ) aS bB rfl mixed Tryz.func48 rfl rfl rfl (Nat.le_of_ble_eq_true rfl) rfl ?_;intro Γ C WK LP fin h0 hk0 hW hC hB hR hLP hfin
  have h02:Γ.n0=2:=h0
  (try (conv=>whnf));(repeat ((first|refine qT ?_|refine qF ?_|refine qO ?_|(with_reducible intro z hz);(first|(replace hz:=hz (by omega);subst hz)|subst hz));(try (conv=>whnf))))
  refine hfin _ ?_
  exact (aC.renew 1 2 rfl (by first|omega|(intro _;rw[hk0 _ _ rfl];exact Nat.le_of_ble_eq_true rfl)) (by repeat (first|exact trivial|refine And.intro (bA _ _ _ _) ?_|refine And.intro rfl ?_))).trans (qSL 2 rfl rfl)
 ·rw[decide_eq_false h1,Bool.not_false,if_pos rfl]
  refine PCB.aj (T:=dZ) aS bB rfl mixed Tryz.func48 rfl rfl rfl (Nat.le_of_ble_eq_true rfl) rfl ?_;intro Γ C WK LP fin h0 hk0 hW hC hB hR hLP hfin
  have h02:Γ.n0=2:=h0
  (try (conv=>whnf));(repeat ((first|refine qT ?_|refine qF ?_|refine qO ?_|(with_reducible intro z hz);(first|(replace hz:=hz (by omega);subst hz)|subst hz));(try (conv=>whnf))))
  refine hfin _ ?_
  exact (aC.row 1 ((((es++[d.it.fr]).map IV.str).map .imm)) rfl (by simp)).trans (qSL 2 rfl rfl)
theorem Uw {l:List Gz} {m:Nat} (hm:m≤300) (h30:bO l m):PCB Tryz.prog aM 34 [.imm (.sl 4 (l.map gzv)),.clo 48 [.ptr 0 1 0]] [.box 1 [.imm .nil],.dead 1] [] [.box 1 [.row 1 2],rwS 2 (puL (aW l))]:=by
 have hIt:=h30.items (by omega)
 have hAc:=h30.Rh
 have hDl:=h30.jI
 have hAl:(bn (allA l)).length≤1000:=Df h30
 have hnd:=xV l
 generalize bn (allA l)=A at *
 generalize aW l=D at *
 have hRu:=Am A D hAl (by omega)
 have hDy:∀d,_:=fun d=>ze A D d hnd (by omega)
 have hmd:(D.map eiv).length=D.length:=List.length_map _
 refine PCB.aj (T:=(tbF fun r=>Nat.beq r 1)) aS bB rfl mixed Tryz.func34 rfl rfl rfl (Nat.le_of_ble_eq_true rfl) rfl ?_;intro Γ C WK LP fin h0 hk0 hW hC hB hR hLP hfin
 have h04:Γ.n0=2:=h0
 (try (conv=>whnf));(repeat ((first|refine qT ?_|refine qF ?_|refine qO ?_|(with_reducible intro z hz);(first|(replace hz:=hz (by omega);subst hz)|subst hz)|(refine ah.mk _ (hC _ _ _ (PCw.of hIt)) (fun js hjs=>?_);subst hjs));(try (conv=>whnf))))
 refine hW _ _ _ aC.spare ?_
 (try (conv=>whnf));(repeat ((first|refine qT ?_|refine qF ?_|refine qO ?_|(with_reducible intro z hz);(first|(replace hz:=hz (by omega);subst hz)|subst hz)|(refine ah.mk _ (hC _ _ _ (PCw.of hAc)) (fun js hjs=>?_);subst hjs));(try (conv=>whnf))))
 refine bV.mk ([.agg [.row 0 2,.imm (.sl 28 ((evs D).map eiv)),.row 1 2]]) ([.map (.int .i64) 2 (mkL kI stI (stM [] A)),.map (.int .i64) 2 (mkL kI gL (orM [] D))]) (hB _ _ _ _ _ (hRu)) ?_
 (try (conv=>whnf));(repeat ((first|refine qT ?_|refine qF ?_|refine qO ?_|(with_reducible intro z hz);(first|(replace hz:=hz (by omega);subst hz)|subst hz));(try (conv=>whnf))))
 refine hLP _ _ _ Nat (fun k=>⟨[(1,.clo 48 [.ptr 0 1 0]),(5,.ptr 6 1 0),(14,.imm (.sl 28 (D.map eiv))),(15,.imm (.int .i64 (D.length:Nat))),(16,.imm (.int .i64 (k:Nat)))],[.box 1 [.row 7 1],.dead 1,.dead 0,.map (.int .i64) 78 (mkL kI gL (orM [] D)),.dead 0,.map (.int .i64) 1 (mkL kI stI (stM [] A)),.box 1 [.row 5 1,.imm (.sl 28 ((evs D).map eiv)),.row 3 78],rwS 1 (puL (D.take k))]⟩) (fun k=>k≤D.length) (fun k=>D.length - k) 0 (Nat.zero_le _) ((aC.BU 0 0 9 1 rfl rfl).trans (qSL 8 rfl rfl (hE:=by (repeat ((conv=>whnf);first|exact trivial|refine And.intro (by first|exact av.any|exact av.eq (by with_reducible rfl) rfl|exact av.eq (congrArg (fun z=>PV.imm (IV.int IntKind.i64 z)) (by first|omega|(simp[hmd];done)|(simp[hmd];omega))) rfl|exact av.eq (by first|(simp[hmd];done)|fail) rfl|exact av.eq rfl rfl|exact av.le rfl (ILe.nil _)) ?_))))) ?_
 intro k hk
 have hho:=Nat.lt_or_ge k D.length
 cases hho with
 |inl hlt=>
  obtain⟨d,hd⟩:∃d,D[k]?=some d:=⟨D[k],List.getElem?_eq_getElem hlt⟩
  have hst:=UR hd
  have hel:=Ui (D.take k)
  rw[List.length_take]at hel
  generalize puL (D.take k)=es at *
  have hAm:=uW d.it.kind
  have hDd:=hDy d
  generalize cK A D d=R at *
  have hOd:=U3 d R es (by omega)
  rw[show eiv d=IV.agg _ from rfl]at hDd hOd
  cases hc:chB d.it.kind with
  |true=>
   rw[hc]at hAm
   rw[hc,if_pos rfl]at hst
   (try (conv=>whnf));(repeat ((first|refine qT ?_|refine qF ?_|refine qO ?_|(with_reducible intro z hz);(first|(replace hz:=hz (by omega);subst hz)|subst hz));(try (conv=>whnf))))
   refine Idx.mk k (eiv d) _ rfl (by simp[hd]) rfl ?_
   (try (conv=>whnf));(repeat ((first|refine qT ?_|refine qF ?_|refine qO ?_|(with_reducible intro z hz);(first|(replace hz:=hz (by omega);subst hz)|subst hz)|(refine ah.mk _ (hC _ _ _ (PCw.of hAm)) (fun js hjs=>?_);subst hjs));(try (conv=>whnf))))
   refine bV.mk ([.imm (.sl 2 (R.map Pe.spv))]) (mpC 1 (stM [] A) (orM [] D)) (hB _ _ _ _ _ (hDd)) ?_
   (try (conv=>whnf));(repeat ((first|refine qT ?_|refine qF ?_|refine qO ?_|(with_reducible intro z hz);(first|(replace hz:=hz (by omega);subst hz)|subst hz));(try (conv=>whnf))))
   refine bN.mk (es.map IV.str) rfl ?_
   (try (conv=>whnf));(repeat ((first|refine qT ?_|refine qF ?_|refine qO ?_|(with_reducible intro z hz);(first|(replace hz:=hz (by omega);subst hz)|subst hz));(try (conv=>whnf))))
   refine bV.mk ([]) ([.box 1 [.row 1 2],Ux 2 (if Uu d=true then es++[d.it.fr] else es)]) (hB _ _ _ _ _ (hOd)) ?_
   (try (conv=>whnf));(repeat ((first|refine qT ?_|refine qF ?_|refine qO ?_|(with_reducible intro z hz);(first|(replace hz:=hz (by omega);subst hz)|subst hz));(try (conv=>whnf))))
   exact⟨k+1,by omega,by dsimp only;omega,by
    dsimp only[]
    rw[hst]
    exact (aC.renew 7 1 rfl (by first|omega|(intro _;rw[hk0 _ _ rfl];exact Nat.le_of_ble_eq_true rfl)) (by repeat (first|exact trivial|refine And.intro (bA _ _ _ _) ?_|refine And.intro rfl ?_))).trans (qSL 8 rfl rfl)⟩
  |false=>
   rw[hc]at hAm
   rw[hc,if_neg (by simp)]at hst
   (try (conv=>whnf));(repeat ((first|refine qT ?_|refine qF ?_|refine qO ?_|(with_reducible intro z hz);(first|(replace hz:=hz (by omega);subst hz)|subst hz));(try (conv=>whnf))))
   refine Idx.mk k (eiv d) _ rfl (by simp[hd]) rfl ?_
   (try (conv=>whnf));(repeat ((first|refine qT ?_|refine qF ?_|refine qO ?_|(with_reducible intro z hz);(first|(replace hz:=hz (by omega);subst hz)|subst hz)|(refine ah.mk _ (hC _ _ _ (PCw.of hAm)) (fun js hjs=>?_);subst hjs));(try (conv=>whnf))))
   exact⟨k+1,by omega,by dsimp only;omega,by
    dsimp only[]
    rw[hst]
    exact (qSL 8 rfl rfl)⟩
 |inr hge=>
  obtain rfl:k=D.length:=by omega
  rw[List.take_length]
  (try (conv=>whnf));(repeat ((first|refine qT ?_|refine qF ?_|refine qO ?_|(with_reducible intro z hz);(first|(replace hz:=hz (by omega);subst hz)|subst hz));(try (conv=>whnf))))
  refine hfin _ ?_
  exact (aC.adopt 1 7 2 (by decide) rfl rfl (by rw[h0];exact Nat.le_of_ble_eq_true rfl) (by first|omega|(intro _;rw[hk0 _ _ rfl];exact Nat.le_of_ble_eq_true rfl)) (by repeat (first|exact trivial|refine And.intro (eD _ _ _ _ _) ?_|refine And.intro rfl ?_))).trans (qSL 2 rfl rfl)
def Uf (l:List Gz):List Str:=ded (Ue (puL (aW l)))
theorem U1 {l:List Gz} {m:Nat} (hm:m≤300) (h:bO l m):PC Tryz.prog aM 25 [.sl 4 (l.map gzv)] [.sl 1 ((Uf l).map IV.str)]:=by
 have hV:=Uw hm h
 have hsm:=Ui (aW l)
 have hdl:=h.jI
 unfold Uf
 generalize puL (aW l)=zs at *
 have hS:=UJ zs (by omega)
 have hSl:=Uq zs
 generalize Ue zs=ss at *
 rcases Uj ss (by omega) with hCm|hCm
 ·skip
  refine PC.aj (T:=dZ) aS bB rfl mixed Tryz.func25 rfl rfl (Nat.le_of_ble_eq_true rfl) ?_;intro Γ C WK LP fin h0 hW hC hB hR hLP hfin
  have h00:Γ.n0=0:=h0
  (try (conv=>whnf));(repeat ((first|refine qT ?_|refine qF ?_|refine qO ?_|(with_reducible intro z hz);(first|(replace hz:=hz (by omega);subst hz)|subst hz));(try (conv=>whnf))))
  refine bV.mk ([]) ([.box 1 [.row 1 2],Ux 2 zs]) (hB _ _ _ _ _ (hV)) ?_
  (try (conv=>whnf));(repeat ((first|refine qT ?_|refine qF ?_|refine qO ?_|(with_reducible intro z hz);(first|(replace hz:=hz (by omega);subst hz)|subst hz));(try (conv=>whnf))))
  refine bN.mk (zs.map IV.str) rfl ?_
  (try (conv=>whnf));(repeat ((first|refine qT ?_|refine qF ?_|refine qO ?_|(with_reducible intro z hz);(first|(replace hz:=hz (by omega);subst hz)|subst hz));(try (conv=>whnf))))
  refine bV.mk ([]) ([Ux 1 ss]) (hB _ _ _ _ _ (hS)) ?_
  (try (conv=>whnf));(repeat ((first|refine qT ?_|refine qF ?_|refine qO ?_|(with_reducible intro z hz);(first|(replace hz:=hz (by omega);subst hz)|subst hz));(try (conv=>whnf))))
  refine bN.mk (ss.map IV.str) rfl ?_
  (try (conv=>whnf));(repeat ((first|refine qT ?_|refine qF ?_|refine qO ?_|(with_reducible intro z hz);(first|(replace hz:=hz (by omega);subst hz)|subst hz));(try (conv=>whnf))))
  refine bV.mk ([.row 0 1]) ([Ux 1 (ded ss)]) (hB _ _ _ _ _ (hCm)) ?_
  (try (conv=>whnf));(repeat ((first|refine qT ?_|refine qF ?_|refine qO ?_|(with_reducible intro z hz);(first|(replace hz:=hz (by omega);subst hz)|subst hz));(try (conv=>whnf))))
  refine bN.mk ((ded ss).map IV.str) rfl ?_
  exact hfin _ (aA.refl _)
 ·skip
  refine PC.aj (T:=dZ) aS bB rfl mixed Tryz.func25 rfl rfl (Nat.le_of_ble_eq_true rfl) ?_;intro Γ C WK LP fin h0 hW hC hB hR hLP hfin
  have h00:Γ.n0=0:=h0
  (try (conv=>whnf));(repeat ((first|refine qT ?_|refine qF ?_|refine qO ?_|(with_reducible intro z hz);(first|(replace hz:=hz (by omega);subst hz)|subst hz));(try (conv=>whnf))))
  refine bV.mk ([]) ([.box 1 [.row 1 2],Ux 2 zs]) (hB _ _ _ _ _ (hV)) ?_
  (try (conv=>whnf));(repeat ((first|refine qT ?_|refine qF ?_|refine qO ?_|(with_reducible intro z hz);(first|(replace hz:=hz (by omega);subst hz)|subst hz));(try (conv=>whnf))))
  refine bN.mk (zs.map IV.str) rfl ?_
  (try (conv=>whnf));(repeat ((first|refine qT ?_|refine qF ?_|refine qO ?_|(with_reducible intro z hz);(first|(replace hz:=hz (by omega);subst hz)|subst hz));(try (conv=>whnf))))
  refine bV.mk ([]) ([Ux 1 ss]) (hB _ _ _ _ _ (hS)) ?_
  (try (conv=>whnf));(repeat ((first|refine qT ?_|refine qF ?_|refine qO ?_|(with_reducible intro z hz);(first|(replace hz:=hz (by omega);subst hz)|subst hz));(try (conv=>whnf))))
  refine bN.mk (ss.map IV.str) rfl ?_
  (try (conv=>whnf));(repeat ((first|refine qT ?_|refine qF ?_|refine qO ?_|(with_reducible intro z hz);(first|(replace hz:=hz (by omega);subst hz)|subst hz));(try (conv=>whnf))))
  refine bV.mk ([.row 0 2]) ([Ux 2 (ded ss)]) (hB _ _ _ _ _ (hCm)) ?_
  (try (conv=>whnf));(repeat ((first|refine qT ?_|refine qF ?_|refine qO ?_|(with_reducible intro z hz);(first|(replace hz:=hz (by omega);subst hz)|subst hz));(try (conv=>whnf))))
  refine bN.mk ((ded ss).map IV.str) rfl ?_
  exact hfin _ (aA.refl _)
end F
end Go.Proofs.YtfjibfdelbodjaaGreat.Po
