/-
  In force: the purposes; their law.
-/
import Derived.Shelf.Sort.Plain
import Derived.Shelf.Slices.In.SortNone
import Derived.Test.YtfjibfdelbodjaaGreatWFl
import Derived.Test.YtfjibfdelbodjaaGreatSoo
import Derived.Test.YtfjibfdelbodjaaGreatSrt
namespace Go.Proofs.YtfjibfdelbodjaaGreat.Po
open Go Go.Pv Go.RowKit
set_option linter.unusedSimpArgs false
open Lab Lcs Go.Proofs.YtfjibfdelbodjaaGreat Go.Proofs.YtfjibfdelbodjaaGreat.Pu
set_option maxRecDepth 10000
set_option maxHeartbeats 32000000
namespace F
theorem Nv:PG Go.Proofs.encStr (fun b:List UInt8=>IV.str ⟨b.toArray⟩) where
 one _:=rfl
 cells _:=rfl
 rep Q w x v:=by unfold aF;exact Iff.rfl
def toL (s:Str):List UInt8:=s.data.toList
def ofL (b:List UInt8):Str:=⟨b.toArray⟩
def RX (l:List (List UInt8)):List (List UInt8):=l.mergeSort fun x y=>decide (x≤y)
def Co (l:List Str):List Str:=(RX (l.map toL)).map ofL
theorem FV (l:List Str):(Co l).length=l.length:=by unfold Co RX;rw[List.length_map,List.length_mergeSort,List.length_map]
theorem MO (l:List Str):(Co l).Perm l:=by
 have h:=(List.mergeSort_perm (l.map toL) fun x y=>decide (x≤y)).map ofL
 rw[List.map_map]at h
 have e:(ofL ∘ toL:Str→Str)=id:=funext fun s=>rfl
 rw[e,List.map_id]at h
 exact h
abbrev rwS (g:Nat) (l:List Str):Blk:=.row 9 1 g ((l.map IV.str).map .imm)
abbrev Jd (g:Nat) (l:List Str):CBk:=.row 9 1 g (l.map IV.str)
theorem KT (L:List Str) (hL:L.length≤1000000000):PCB Tryz.prog aM 49 [.row 0 1] [rwS 1 L] [] [rwS 1 (Co L)]:=by
 have h:=Bl (P:=Tryz.prog) (X:=aM) (e:=9) Nv RX (fun l=>List.length_mergeSort l) (enters_of Tryz.func49 rfl rfl)
  (fun w blk cap l hH hb hl=>by
   have hcon:=Go.Proofs.Any.slices_Sort_string Tryz.sortS blk 0 cap l w hH hb (by unfold most at hl;omega)
   change Calls Tryz.prog 49 _ _ _ at hcon
   exact hcon)
  (fun p cap w=>by
   have hcon:=Go.Proofs.Any.slices_Sort_string_none Tryz.sortS p cap w
   change Calls Tryz.prog 49 _ _ _ at hcon
   exact hcon)
  (L.map toL) (by unfold most;rw[List.length_map];exact hL)
 have e1:(L.map toL).map (fun b:List UInt8=>IV.str ⟨b.toArray⟩)=L.map IV.str:=by rw[List.map_map];rfl
 have e2:(RX (L.map toL)).map (fun b:List UInt8=>IV.str ⟨b.toArray⟩)=(Co L).map IV.str:=by unfold Co;rw[List.map_map];rfl
 rw[e1,e2]at h
 exact h
def Fh (d:Ei):Bool:=!decide (d.it.fr=⟨#[]⟩)
def puL (L:List Ei):List Str:=((amL L).filter Fh).map fun d=>d.it.fr
theorem Nt {L:List Ei} {k:Nat} {d:Ei} (h:L[k]?=some d):puL (L.take (k+1))=if chB d.it.kind=true then (if Fh d=true then puL (L.take k)++[d.it.fr] else puL (L.take k)) else puL (L.take k):=by
 unfold puL
 rw[nR h]
 cases chB d.it.kind with
 |true=>
  rw[if_pos rfl,if_pos rfl,List.filter_append]
  cases hb:Fh d<;>simp[List.filter_cons,hb]
 |false=>rfl
theorem Dl (L:List Ei):(puL L).length≤L.length:=by
 unfold puL
 rw[List.length_map]
 exact Nat.le_trans (List.length_filter_le _ _) (List.length_filter_le _ _)
theorem Ra (d:Ei) (R:List Spans.Sp) (es:List Str) (he:es.length≤1000):PCB Tryz.prog aM 48 [.imm (eiv d),.imm (.sl 2 (R.map Pe.spv)),.ptr 0 1 0] [.box 1 [.row 1 1],rwS 1 es] [] [.box 1 [.row 1 2],rwS 2 (if Fh d=true then es++[d.it.fr] else es)]:=by
 unfold Fh
 have hel:((es.map IV.str).map PV.imm).length=es.length:=by simp
 rw[show eiv d=IV.agg _ from rfl]
 by_cases h1:d.it.fr=⟨#[]⟩
 ·rw[decide_eq_true h1,Bool.not_true,if_neg (by simp)]
  refine PCB.ak (T:=cB) aN aU rfl mixed Tryz.func48 rfl rfl rfl (Nat.le_of_ble_eq_true rfl) rfl ?_;intro Γ C WK LP fin h0 hk0 hW hC hB hR hLP hfin
  have h02:Γ.n0=2:=h0
  (try (conv=>whnf));(repeat ((first|refine qT ?_|refine qF ?_|refine qO ?_|(with_reducible intro z hz);(first|(replace hz:=hz (by omega);subst hz)|subst hz));(try (conv=>whnf))))
  refine hfin _ ?_
  exact (aA.renew 1 2 rfl (by first|omega|(intro _;rw[hk0 _ _ rfl];exact Nat.le_of_ble_eq_true rfl)) (by repeat (first|exact trivial|refine And.intro (aY _ _ _ _) ?_|refine And.intro rfl ?_))).trans (qSL 2 rfl rfl)
 ·rw[decide_eq_false h1,Bool.not_false,if_pos rfl]
  refine PCB.ak (T:=cB) aN aU rfl mixed Tryz.func48 rfl rfl rfl (Nat.le_of_ble_eq_true rfl) rfl ?_;intro Γ C WK LP fin h0 hk0 hW hC hB hR hLP hfin
  have h02:Γ.n0=2:=h0
  (try (conv=>whnf));(repeat ((first|refine qT ?_|refine qF ?_|refine qO ?_|(with_reducible intro z hz);(first|(replace hz:=hz (by omega);subst hz)|subst hz));(try (conv=>whnf))))
  refine hfin _ ?_
  exact (aA.row 1 ((((es++[d.it.fr]).map IV.str).map .imm)) rfl (by simp)).trans (qSL 2 rfl rfl)
theorem Gg {l:List Gz} {m:Nat} (hm:m≤300) (h30:bH l m):PCB Tryz.prog aM 34 [.imm (.sl 4 (l.map gzv)),.clo 48 [.ptr 0 1 0]] [.box 1 [.imm .nil],.dead 1] [] [.box 1 [.row 1 2],rwS 2 (puL (aP l))]:=by
 have hIt:=h30.items (by omega)
 have hAc:=h30.KP
 have hDl:=h30.dI
 have hAl:(bn (allA l)).length≤1000:=rE h30
 have hnd:=lW l
 generalize bn (allA l)=A at *
 generalize aP l=D at *
 have hRu:=oK A D hAl (by omega)
 have hDy:∀d,_:=fun d=>oJ A D d hnd (by omega)
 have hmd:(D.map eiv).length=D.length:=List.length_map _
 refine PCB.ak (T:=(tbF fun r=>Nat.beq r 1)) aN aU rfl mixed Tryz.func34 rfl rfl rfl (Nat.le_of_ble_eq_true rfl) rfl ?_;intro Γ C WK LP fin h0 hk0 hW hC hB hR hLP hfin
 have h04:Γ.n0=2:=h0
 (try (conv=>whnf));(repeat ((first|refine qT ?_|refine qF ?_|refine qO ?_|(with_reducible intro z hz);(first|(replace hz:=hz (by omega);subst hz)|subst hz)|(refine ah.mk _ (hC _ _ _ (PCw.of hIt)) (fun js hjs=>?_);subst hjs));(try (conv=>whnf))))
 refine hW _ _ _ aA.spare ?_
 (try (conv=>whnf));(repeat ((first|refine qT ?_|refine qF ?_|refine qO ?_|(with_reducible intro z hz);(first|(replace hz:=hz (by omega);subst hz)|subst hz)|(refine ah.mk _ (hC _ _ _ (PCw.of hAc)) (fun js hjs=>?_);subst hjs));(try (conv=>whnf))))
 refine bG.mk ([.agg [.row 0 2,.imm (.sl 28 ((evs D).map eiv)),.row 1 2]]) ([.map (.int .i64) 2 (mkL kI stI (stM [] A)),.map (.int .i64) 2 (mkL kI fK (orM [] D))]) (hB _ _ _ _ _ (hRu)) ?_
 (try (conv=>whnf));(repeat ((first|refine qT ?_|refine qF ?_|refine qO ?_|(with_reducible intro z hz);(first|(replace hz:=hz (by omega);subst hz)|subst hz));(try (conv=>whnf))))
 refine hLP _ _ _ Nat (fun k=>⟨[(1,.clo 48 [.ptr 0 1 0]),(5,.ptr 6 1 0),(14,.imm (.sl 28 (D.map eiv))),(15,.imm (.int .i64 (D.length:Nat))),(16,.imm (.int .i64 (k:Nat)))],[.box 1 [.row 7 1],.dead 1,.dead 0,.map (.int .i64) 78 (mkL kI fK (orM [] D)),.dead 0,.map (.int .i64) 1 (mkL kI stI (stM [] A)),.box 1 [.row 5 1,.imm (.sl 28 ((evs D).map eiv)),.row 3 78],rwS 1 (puL (D.take k))]⟩) (fun k=>k≤D.length) (fun k=>D.length - k) 0 (Nat.zero_le _) ((aA.vT 0 0 9 1 rfl rfl).trans (qSL 8 rfl rfl (hE:=by (repeat ((conv=>whnf);first|exact trivial|refine And.intro (by first|exact aj.any|exact aj.eq (by with_reducible rfl) rfl|exact aj.eq (congrArg (fun z=>PV.imm (IV.int IntKind.i64 z)) (by first|omega|(simp[hmd];done)|(simp[hmd];omega))) rfl|exact aj.eq (by first|(simp[hmd];done)|fail) rfl|exact aj.eq rfl rfl|exact aj.le rfl (ILe.nil _)) ?_))))) ?_
 intro k hk
 have hho:=Nat.lt_or_ge k D.length
 cases hho with
 |inl hlt=>
  obtain⟨d,hd⟩:∃d,D[k]?=some d:=⟨D[k],List.getElem?_eq_getElem hlt⟩
  have hst:=Nt hd
  have hel:=Dl (D.take k)
  rw[List.length_take]at hel
  generalize puL (D.take k)=es at *
  have hAm:=oN d.it.kind
  have hDd:=hDy d
  generalize cu A D d=R at *
  have hOd:=Ra d R es (by omega)
  rw[show eiv d=IV.agg _ from rfl]at hDd hOd
  cases hc:chB d.it.kind with
  |true=>
   rw[hc]at hAm
   rw[hc,if_pos rfl]at hst
   (try (conv=>whnf));(repeat ((first|refine qT ?_|refine qF ?_|refine qO ?_|(with_reducible intro z hz);(first|(replace hz:=hz (by omega);subst hz)|subst hz));(try (conv=>whnf))))
   refine Idx.mk k (eiv d) _ rfl (by simp[hd]) rfl ?_
   (try (conv=>whnf));(repeat ((first|refine qT ?_|refine qF ?_|refine qO ?_|(with_reducible intro z hz);(first|(replace hz:=hz (by omega);subst hz)|subst hz)|(refine ah.mk _ (hC _ _ _ (PCw.of hAm)) (fun js hjs=>?_);subst hjs));(try (conv=>whnf))))
   refine bG.mk ([.imm (.sl 2 (R.map Pe.spv))]) (mpC 1 (stM [] A) (orM [] D)) (hB _ _ _ _ _ (hDd)) ?_
   (try (conv=>whnf));(repeat ((first|refine qT ?_|refine qF ?_|refine qO ?_|(with_reducible intro z hz);(first|(replace hz:=hz (by omega);subst hz)|subst hz));(try (conv=>whnf))))
   refine bK.mk (es.map IV.str) rfl ?_
   (try (conv=>whnf));(repeat ((first|refine qT ?_|refine qF ?_|refine qO ?_|(with_reducible intro z hz);(first|(replace hz:=hz (by omega);subst hz)|subst hz));(try (conv=>whnf))))
   refine bG.mk ([]) ([.box 1 [.row 1 2],Jd 2 (if Fh d=true then es++[d.it.fr] else es)]) (hB _ _ _ _ _ (hOd)) ?_
   (try (conv=>whnf));(repeat ((first|refine qT ?_|refine qF ?_|refine qO ?_|(with_reducible intro z hz);(first|(replace hz:=hz (by omega);subst hz)|subst hz));(try (conv=>whnf))))
   exact⟨k+1,by omega,by dsimp only;omega,by
    dsimp only[]
    rw[hst]
    exact (aA.renew 7 1 rfl (by first|omega|(intro _;rw[hk0 _ _ rfl];exact Nat.le_of_ble_eq_true rfl)) (by repeat (first|exact trivial|refine And.intro (aY _ _ _ _) ?_|refine And.intro rfl ?_))).trans (qSL 8 rfl rfl)⟩
  |false=>
   rw[hc]at hAm
   rw[hc,if_neg (by simp)]at hst
   (try (conv=>whnf));(repeat ((first|refine qT ?_|refine qF ?_|refine qO ?_|(with_reducible intro z hz);(first|(replace hz:=hz (by omega);subst hz)|subst hz));(try (conv=>whnf))))
   refine Idx.mk k (eiv d) _ rfl (by simp[hd]) rfl ?_
   (try (conv=>whnf));(repeat ((first|refine qT ?_|refine qF ?_|refine qO ?_|(with_reducible intro z hz);(first|(replace hz:=hz (by omega);subst hz)|subst hz)|(refine ah.mk _ (hC _ _ _ (PCw.of hAm)) (fun js hjs=>?_);subst hjs));(try (conv=>whnf))))
   exact⟨k+1,by omega,by dsimp only;omega,by
    dsimp only[]
    rw[hst]
    exact (qSL 8 rfl rfl)⟩
 |inr hge=>
  obtain rfl:k=D.length:=by omega
  rw[List.take_length]
  (try (conv=>whnf));(repeat ((first|refine qT ?_|refine qF ?_|refine qO ?_|(with_reducible intro z hz);(first|(replace hz:=hz (by omega);subst hz)|subst hz));(try (conv=>whnf))))
  refine hfin _ ?_
  exact (aA.adopt 1 7 2 (by decide) rfl rfl (by rw[h0];exact Nat.le_of_ble_eq_true rfl) (by first|omega|(intro _;rw[hk0 _ _ rfl];exact Nat.le_of_ble_eq_true rfl)) (by repeat (first|exact trivial|refine And.intro (dU _ _ _ _ _) ?_|refine And.intro rfl ?_))).trans (qSL 2 rfl rfl)
def BH (l:List Gz):List Str:=ded (Co (puL (aP l)))
theorem RN {l:List Gz} {m:Nat} (hm:m≤300) (h:bH l m):PC Tryz.prog aM 25 [.sl 4 (l.map gzv)] [.sl 1 ((BH l).map IV.str)]:=by
 have hV:=Gg hm h
 have hsm:=Dl (aP l)
 have hdl:=h.dI
 unfold BH
 generalize puL (aP l)=zs at *
 have hS:=KT zs (by omega)
 have hSl:=FV zs
 generalize Co zs=ss at *
 rcases Cr ss (by omega) with hCm|hCm
 ·skip
  refine PC.ak (T:=cB) aN aU rfl mixed Tryz.func25 rfl rfl (Nat.le_of_ble_eq_true rfl) ?_;intro Γ C WK LP fin h0 hW hC hB hR hLP hfin
  have h00:Γ.n0=0:=h0
  (try (conv=>whnf));(repeat ((first|refine qT ?_|refine qF ?_|refine qO ?_|(with_reducible intro z hz);(first|(replace hz:=hz (by omega);subst hz)|subst hz));(try (conv=>whnf))))
  refine bG.mk ([]) ([.box 1 [.row 1 2],Jd 2 zs]) (hB _ _ _ _ _ (hV)) ?_
  (try (conv=>whnf));(repeat ((first|refine qT ?_|refine qF ?_|refine qO ?_|(with_reducible intro z hz);(first|(replace hz:=hz (by omega);subst hz)|subst hz));(try (conv=>whnf))))
  refine bK.mk (zs.map IV.str) rfl ?_
  (try (conv=>whnf));(repeat ((first|refine qT ?_|refine qF ?_|refine qO ?_|(with_reducible intro z hz);(first|(replace hz:=hz (by omega);subst hz)|subst hz));(try (conv=>whnf))))
  refine bG.mk ([]) ([Jd 1 ss]) (hB _ _ _ _ _ (hS)) ?_
  (try (conv=>whnf));(repeat ((first|refine qT ?_|refine qF ?_|refine qO ?_|(with_reducible intro z hz);(first|(replace hz:=hz (by omega);subst hz)|subst hz));(try (conv=>whnf))))
  refine bK.mk (ss.map IV.str) rfl ?_
  (try (conv=>whnf));(repeat ((first|refine qT ?_|refine qF ?_|refine qO ?_|(with_reducible intro z hz);(first|(replace hz:=hz (by omega);subst hz)|subst hz));(try (conv=>whnf))))
  refine bG.mk ([.row 0 1]) ([Jd 1 (ded ss)]) (hB _ _ _ _ _ (hCm)) ?_
  (try (conv=>whnf));(repeat ((first|refine qT ?_|refine qF ?_|refine qO ?_|(with_reducible intro z hz);(first|(replace hz:=hz (by omega);subst hz)|subst hz));(try (conv=>whnf))))
  refine bK.mk ((ded ss).map IV.str) rfl ?_
  exact hfin _ (ay.refl _)
 ·skip
  refine PC.ak (T:=cB) aN aU rfl mixed Tryz.func25 rfl rfl (Nat.le_of_ble_eq_true rfl) ?_;intro Γ C WK LP fin h0 hW hC hB hR hLP hfin
  have h00:Γ.n0=0:=h0
  (try (conv=>whnf));(repeat ((first|refine qT ?_|refine qF ?_|refine qO ?_|(with_reducible intro z hz);(first|(replace hz:=hz (by omega);subst hz)|subst hz));(try (conv=>whnf))))
  refine bG.mk ([]) ([.box 1 [.row 1 2],Jd 2 zs]) (hB _ _ _ _ _ (hV)) ?_
  (try (conv=>whnf));(repeat ((first|refine qT ?_|refine qF ?_|refine qO ?_|(with_reducible intro z hz);(first|(replace hz:=hz (by omega);subst hz)|subst hz));(try (conv=>whnf))))
  refine bK.mk (zs.map IV.str) rfl ?_
  (try (conv=>whnf));(repeat ((first|refine qT ?_|refine qF ?_|refine qO ?_|(with_reducible intro z hz);(first|(replace hz:=hz (by omega);subst hz)|subst hz));(try (conv=>whnf))))
  refine bG.mk ([]) ([Jd 1 ss]) (hB _ _ _ _ _ (hS)) ?_
  (try (conv=>whnf));(repeat ((first|refine qT ?_|refine qF ?_|refine qO ?_|(with_reducible intro z hz);(first|(replace hz:=hz (by omega);subst hz)|subst hz));(try (conv=>whnf))))
  refine bK.mk (ss.map IV.str) rfl ?_
  (try (conv=>whnf));(repeat ((first|refine qT ?_|refine qF ?_|refine qO ?_|(with_reducible intro z hz);(first|(replace hz:=hz (by omega);subst hz)|subst hz));(try (conv=>whnf))))
  refine bG.mk ([.row 0 2]) ([Jd 2 (ded ss)]) (hB _ _ _ _ _ (hCm)) ?_
  (try (conv=>whnf));(repeat ((first|refine qT ?_|refine qF ?_|refine qO ?_|(with_reducible intro z hz);(first|(replace hz:=hz (by omega);subst hz)|subst hz));(try (conv=>whnf))))
  refine bK.mk ((ded ss).map IV.str) rfl ?_
  exact hfin _ (ay.refl _)
theorem P7 {l:List Gz} {s:Str}:s∈BH l↔∃d∈amL (aP l),d.it.fr≠⟨#[]⟩∧d.it.fr=s:=by
 unfold BH
 rw[J2,(MO _).mem_iff]
 unfold puL
 rw[List.mem_map]
 constructor
 ·rintro⟨d,hd,rfl⟩
  obtain⟨h1,h2⟩:=List.mem_filter.1 hd
  unfold Fh at h2
  exact⟨d,h1,by simpa using h2,rfl⟩
 ·rintro⟨d,hd,h1,rfl⟩
  exact⟨d,List.mem_filter.2 ⟨hd,by unfold Fh;rw[decide_eq_false h1];rfl⟩,rfl⟩
theorem AQ (l:List Gz) (day:Int) (p:Str):onG l day ⟨#[]⟩=(onG l day p).filter fun d=>decide (d.it.fr=⟨#[]⟩):=by
 unfold onG onL
 rw[List.filter_filter]
 congr 1
 funext d
 unfold onB
 by_cases h1:d.it.fr=⟨#[]⟩
 ·rw[decide_eq_true h1];rfl
 ·rw[decide_eq_false h1];rfl
theorem KF {l:List Gz} {day:Int} {p:Str}:∀d∈onG l day p,d.it.fr=⟨#[]⟩∨d.it.fr=p:=fun d hd=>by
 have h2:=(List.mem_filter.1 hd).2
 unfold onB at h2
 rw[Bool.and_eq_true,Bool.or_eq_true,decide_eq_true_eq,decide_eq_true_eq]at h2
 exact h2.1
theorem TN {l:List Gz} {day:Int} {p:Str} (h:p∉BH l):onG l day p=onG l day ⟨#[]⟩:=by
 rw[AQ l day p,List.filter_eq_self.2]
 intro d hd
 rw[decide_eq_true_eq]
 rcases KF d hd with h1|h1
 ·exact h1
 ·by_cases h2:d.it.fr=⟨#[]⟩
  ·exact h2
  ·exact absurd (P7.2 ⟨d,(List.mem_filter.1 hd).1,h2,h1⟩) h
theorem S9 (l:List Gz) (hF:Ii l) (day:Int) (p:Str) (hp:p.size≤9223372036854775807):PC Tryz.prog aM 7 [.sl 4 (l.map gzv),.int .i64 day,.str p] [.bool true]:=by
 have hA:=qh
 have hFw:=CQ l hF
 cases hb:xR l 30 with
 |false=>
  rw[hb]at hFw
  refine PC.ak (T:=cB) aN aU rfl mixed Tryz.func7 rfl rfl (Nat.le_of_ble_eq_true rfl) ?_;intro Γ C WK LP fin h0 hW hC hB hR hLP hfin
  (try (conv=>whnf));(repeat ((first|refine qT ?_|refine qF ?_|refine qO ?_|(with_reducible intro z hz);(first|(replace hz:=hz (by omega);subst hz)|subst hz)|(refine ah.mk _ (hC _ _ _ (PCw.of hA)) (fun js hjs=>?_);subst hjs)|(refine ah.mk _ (hC _ _ _ (PCw.of hFw)) (fun js hjs=>?_);subst hjs));(try (conv=>whnf))))
  exact hfin _ (ay.refl _)
 |true=>
  rw[hb]at hFw
  have h30:=J5 (m:=30) (by omega) hF.2 hb
  by_cases hp1:p.size≤100
  rotate_left
  ·refine PC.ak (T:=cB) aN aU rfl mixed Tryz.func7 rfl rfl (Nat.le_of_ble_eq_true rfl) ?_;intro Γ C WK LP fin h0 hW hC hB hR hLP hfin
   (try (conv=>whnf));(repeat ((first|refine qT ?_|refine qF ?_|refine qO ?_|(with_reducible intro z hz);(first|(replace hz:=hz (by omega);subst hz)|subst hz)|(refine ah.mk _ (hC _ _ _ (PCw.of hA)) (fun js hjs=>?_);subst hjs)|(refine ah.mk _ (hC _ _ _ (PCw.of hFw)) (fun js hjs=>?_);subst hjs));(try (conv=>whnf))))
   exact hfin _ (ay.refl _)
  have hO1:=Fg (by omega) h30 day ⟨#[]⟩
  have hO2:=Fg (by omega) h30 day p
  have hPu:=RN (by omega) h30
  have hl1:=Dc h30 day ⟨#[]⟩
  have hl2:=Dc h30 day p
  have hS:=zF (onG l day ⟨#[]⟩) (onG l day ⟨#[]⟩) (by omega) (by omega) (BQ h30 day ⟨#[]⟩) (BQ h30 day ⟨#[]⟩)
  rw[decide_eq_true rfl]at hS
  have hem:=AQ l day p
  have hfo:=KF (l:=l) (day:=day) (p:=p)
  have hun:p∉BH l→(onG l day p).length=(onG l day ⟨#[]⟩).length:=fun h=>by rw[TN h]
  have hpl:(BH l).length≤1000:=by
   unfold BH
   have h1:=Bn (Co (puL (aP l)))
   have h2:=FV (puL (aP l))
   have h3:=Dl (aP l)
   have h4:=h30.dI
   omega
  generalize BH l=P at *
  generalize onG l day ⟨#[]⟩=D at *
  generalize onG l day p=E at *
  have hmd:(D.map eiv).length=D.length:=List.length_map _
  have hme:(E.map eiv).length=E.length:=List.length_map _
  have hmp:(P.map IV.str).length=P.length:=List.length_map _
  refine PC.ak (T:=cB) aN aU rfl mixed Tryz.func7 rfl rfl (Nat.le_of_ble_eq_true rfl) ?_;intro Γ C WK LP fin h0 hW hC hB hR hLP hfin
  have h00:Γ.n0=0:=h0
  (try (conv=>whnf));(repeat ((first|refine qT ?_|refine qF ?_|refine qO ?_|(with_reducible intro z hz);(first|(replace hz:=hz (by omega);subst hz)|subst hz)|(refine ah.mk _ (hC _ _ _ (PCw.of hA)) (fun js hjs=>?_);subst hjs)|(refine ah.mk _ (hC _ _ _ (PCw.of hFw)) (fun js hjs=>?_);subst hjs)|(refine ah.mk _ (hC _ _ _ (PCw.of hO1)) (fun js hjs=>?_);subst hjs)|(refine ah.mk _ (hC _ _ _ (PCw.of hO2)) (fun js hjs=>?_);subst hjs));(try (conv=>whnf))))
  refine hLP _ _ _ Nat (fun k=>⟨[(0,.imm (.sl 4 (l.map gzv))),(1,.imm (.int .i64 day)),(2,.imm (.str p)),(7,.imm (.sl 28 (D.map eiv))),(8,.imm (.sl 28 (E.map eiv))),(9,.row 4 1),(10,.imm (.int .i64 (k:Nat)))],[.dead 0,.dead 0,.dead 0,.dead 0,rwE 1 ((E.take k).filter fun d=>decide (d.it.fr=⟨#[]⟩))]⟩) (fun k=>k≤E.length) (fun k=>E.length - k) 0 (Nat.zero_le _) ((aA.row 4 (((((E.take 0).filter fun d=>decide (d.it.fr=⟨#[]⟩)).map eiv).map .imm)) rfl (by rfl)).trans (qSL 5 rfl rfl (hE:=by (repeat ((conv=>whnf);first|exact trivial|refine And.intro (by first|exact aj.any|exact aj.eq (by with_reducible rfl) rfl|exact aj.eq (congrArg (fun z=>PV.imm (IV.int IntKind.i64 z)) (by first|omega|(simp[hme];done)|(simp[hme];omega))) rfl|exact aj.eq (by first|(simp[hme];done)|fail) rfl|exact aj.eq rfl rfl|exact aj.le rfl (ILe.nil _)) ?_))))) ?_
  intro k hk
  have hho:=Nat.lt_or_ge k E.length
  cases hho with
  |inl hlt=>
   obtain⟨d,hd⟩:∃d,E[k]?=some d:=⟨E[k],List.getElem?_eq_getElem hlt⟩
   have hst:=uR (p:=fun d:Ei=>decide (d.it.fr=⟨#[]⟩)) hd
   have hel:((E.take k).filter fun d=>decide (d.it.fr=⟨#[]⟩)).length≤k:=Nat.le_trans (List.length_filter_le _ _) (by rw[List.length_take];omega)
   generalize ((E.take k).filter fun d=>decide (d.it.fr=⟨#[]⟩))=es at *
   have hlm:((es.map eiv).map PV.imm).length=es.length:=by simp
   have hdo:=hfo d (List.mem_of_getElem? hd)
   by_cases h1:d.it.fr=⟨#[]⟩
   ·have hst:_=es++[d]:=hst.trans (if_pos (decide_eq_true h1))
    (try (conv=>whnf));(repeat ((first|refine qT ?_|refine qF ?_|refine qO ?_|(with_reducible intro z hz);(first|(replace hz:=hz (by omega);subst hz)|subst hz));(try (conv=>whnf))))
    refine Idx.mk k (eiv d) _ rfl (by simp[hd]) rfl ?_
    (try (conv=>whnf));(repeat ((first|refine qT ?_|refine qF ?_|refine qO ?_|(with_reducible intro z hz);(first|(replace hz:=hz (by omega);subst hz)|subst hz));(try (conv=>whnf))))
    refine Idx.mk k (eiv d) _ rfl (by simp[hd]) rfl ?_
    (try (conv=>whnf));(repeat ((first|refine qT ?_|refine qF ?_|refine qO ?_|(with_reducible intro z hz);(first|(replace hz:=hz (by omega);subst hz)|subst hz));(try (conv=>whnf))))
    exact⟨k+1,by omega,by dsimp only;omega,by
     dsimp only[]
     rw[hst]
     exact (aA.row 4 ((((es++[d]).map eiv).map .imm)) rfl (by simp[eiv];rfl)).trans ((aA.renew 4 1 rfl (by first|omega|(intro _;rw[hk0 _ _ rfl];exact Nat.le_of_ble_eq_true rfl)) (by repeat (first|exact trivial|refine And.intro (aY _ _ _ _) ?_|refine And.intro rfl ?_))).trans (qSL 5 rfl rfl))⟩
   ·have h2:d.it.fr=p:=hdo.resolve_left h1
    have hst:_=es:=hst.trans (if_neg (by rw[decide_eq_false h1];simp))
    (try (conv=>whnf));(repeat ((first|refine qT ?_|refine qF ?_|refine qO ?_|(with_reducible intro z hz);(first|(replace hz:=hz (by omega);subst hz)|subst hz));(try (conv=>whnf))))
    refine Idx.mk k (eiv d) _ rfl (by simp[hd]) rfl ?_
    (try (conv=>whnf));(repeat ((first|refine qT ?_|refine qF ?_|refine qO ?_|(with_reducible intro z hz);(first|(replace hz:=hz (by omega);subst hz)|subst hz));(try (conv=>whnf))))
    refine Idx.mk k (eiv d) _ rfl (by simp[hd]) rfl ?_
    (try (conv=>whnf));(repeat ((first|refine qT ?_|refine qF ?_|refine qO ?_|(with_reducible intro z hz);(first|(replace hz:=hz (by omega);subst hz)|subst hz));(try (conv=>whnf))))
    exact⟨k+1,by omega,by dsimp only;omega,by
     dsimp only[]
     rw[hst]
     exact (qSL 5 rfl rfl)⟩
  |inr hge=>
   obtain rfl:k=E.length:=by omega
   rw[List.take_length,←hem]
   clear hem hfo
   (try (conv=>whnf));(repeat ((first|refine qT ?_|refine qF ?_|refine qO ?_|(with_reducible intro z hz);(first|(replace hz:=hz (by omega);subst hz)|subst hz));(try (conv=>whnf))))
   refine bK.mk (D.map eiv) rfl ?_
   (try (conv=>whnf));(repeat ((first|refine qT ?_|refine qF ?_|refine qO ?_|(with_reducible intro z hz);(first|(replace hz:=hz (by omega);subst hz)|subst hz)|(refine ah.mk _ (hC _ _ _ (PCw.of hS)) (fun js hjs=>?_);subst hjs)|(refine ah.mk _ (hC _ _ _ (PCw.of hPu)) (fun js hjs=>?_);subst hjs));(try (conv=>whnf))))
   refine hLP _ _ _ Nat (fun k=>⟨[(2,.imm (.str p)),(7,.imm (.sl 28 (D.map eiv))),(8,.imm (.sl 28 (E.map eiv))),(11,.imm (.bool ((P.take k).any fun s=>decide (s=p)))),(12,.imm (.sl 1 (P.map IV.str))),(13,.imm (.int .i64 (k:Nat)))],[]⟩) (fun k=>k≤P.length) (fun k=>P.length - k) 0 (Nat.zero_le _) ((qSL 0 rfl rfl (hE:=by (repeat ((conv=>whnf);first|exact trivial|refine And.intro (by first|exact aj.any|exact aj.eq (by with_reducible rfl) rfl|exact aj.eq (congrArg (fun z=>PV.imm (IV.int IntKind.i64 z)) (by first|omega|(simp[hmp];done)|(simp[hmp];omega))) rfl|exact aj.eq (by first|(simp[hmp];done)|fail) rfl|exact aj.eq rfl rfl|exact aj.le rfl (ILe.nil _)) ?_))))) ?_
   intro k hk
   have hho:=Nat.lt_or_ge k P.length
   cases hho with
   |inl hlt=>
    obtain⟨s,hs⟩:∃s,P[k]?=some s:=⟨P[k],List.getElem?_eq_getElem hlt⟩
    have hst:(P.take (k+1)).any (fun s=>decide (s=p))=((P.take k).any (fun s=>decide (s=p))||decide (s=p)):=by rw[take_at hs,List.any_append];simp
    cases hkn:(P.take k).any fun s=>decide (s=p) with
    |true=>
     rw[hkn,Bool.true_or]at hst
     (try (conv=>whnf));(repeat ((first|refine qT ?_|refine qF ?_|refine qO ?_|(with_reducible intro z hz);(first|(replace hz:=hz (by omega);subst hz)|subst hz));(try (conv=>whnf))))
     exact⟨k+1,by omega,by dsimp only;omega,by
      dsimp only[]
      rw[hst]
      exact (qSL 0 rfl rfl)⟩
    |false=>
     rw[hkn,Bool.false_or]at hst
     by_cases hsp:s=p
     ·rw[decide_eq_true hsp]at hst
      (try (conv=>whnf));(repeat ((first|refine qT ?_|refine qF ?_|refine qO ?_|(with_reducible intro z hz);(first|(replace hz:=hz (by omega);subst hz)|subst hz));(try (conv=>whnf))))
      refine Idx.mk k (.str s) _ rfl (by simp[hs]) rfl ?_
      (try (conv=>whnf));(repeat ((first|refine qT ?_|refine qF ?_|refine qO ?_|(with_reducible intro z hz);(first|(replace hz:=hz (by omega);subst hz)|subst hz));(try (conv=>whnf))))
      exact⟨k+1,by omega,by dsimp only;omega,by
       dsimp only[]
       rw[hst]
       exact (qSL 0 rfl rfl)⟩
     ·rw[decide_eq_false hsp]at hst
      (try (conv=>whnf));(repeat ((first|refine qT ?_|refine qF ?_|refine qO ?_|(with_reducible intro z hz);(first|(replace hz:=hz (by omega);subst hz)|subst hz));(try (conv=>whnf))))
      refine Idx.mk k (.str s) _ rfl (by simp[hs]) rfl ?_
      (try (conv=>whnf));(repeat ((first|refine qT ?_|refine qF ?_|refine qO ?_|(with_reducible intro z hz);(first|(replace hz:=hz (by omega);subst hz)|subst hz));(try (conv=>whnf))))
      exact⟨k+1,by omega,by dsimp only;omega,by
       dsimp only[]
       rw[hst]
       exact (qSL 0 rfl rfl)⟩
   |inr hge=>
    obtain rfl:k=P.length:=by omega
    rw[List.take_length]
    cases hkn:P.any fun s=>decide (s=p) with
    |true=>
     (try (conv=>whnf));(repeat ((first|refine qT ?_|refine qF ?_|refine qO ?_|(with_reducible intro z hz);(first|(replace hz:=hz (by omega);subst hz)|subst hz));(try (conv=>whnf))))
     exact hfin _ (ay.refl _)
    |false=>
     have hle:=hun (fun hm=>by
      rw[List.any_eq_false]at hkn
      exact hkn p hm (decide_eq_true rfl))
     (try (conv=>whnf));(repeat ((first|refine qT ?_|refine qF ?_|refine qO ?_|(with_reducible intro z hz);(first|(replace hz:=hz (by omega);subst hz)|subst hz));(try (conv=>whnf))))
     exact hfin _ (ay.refl _)
theorem UR (l:List Gz) (hF:Ii l) (day:Int) (p:Str) (hp:p.size≤maxLen):PC Tryz.prog aM 7 [.sl 4 (l.map gzv),.int .i64 day,.str p] [.bool true]:=S9 l hF day p (by unfold maxLen at hp;omega)
end F
end Go.Proofs.YtfjibfdelbodjaaGreat.Po
