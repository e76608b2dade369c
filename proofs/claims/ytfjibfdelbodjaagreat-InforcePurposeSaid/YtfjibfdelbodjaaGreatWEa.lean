/-
  Corpus: numbers that occur more than once, by the program.
-/
import Derived.Shelf.Sort.Plain
import Derived.Shelf.Slices.In.SortNone
import Derived.Test.YtfjibfdelbodjaaGreatWDk
import Derived.Test.YtfjibfdelbodjaaGreatSoo
namespace Go.Proofs.YtfjibfdelbodjaaGreat.Po
open Go Go.Pv Go.RowKit
set_option linter.unusedSimpArgs false
open Lab Lcs Go.Proofs.YtfjibfdelbodjaaGreat Go.Proofs.YtfjibfdelbodjaaGreat.Pu
set_option maxRecDepth 10000
set_option maxHeartbeats 32000000
theorem qm {m:List (Int×Bool)} {x:Int}:(∀z,z∈(cO m x true).map Prod.fst↔z=x∨z∈m.map Prod.fst)∧((m.map Prod.fst).Nodup→((cO m x true).map Prod.fst).Nodup):=by
 have hm:∀z,z∈(cO m x true).map Prod.fst↔z=x∨z∈m.map Prod.fst:=fun z=>by
  have h1:=fM (k:=z) (m:=cO m x true)
  have h2:=fM (k:=z) (m:=m)
  have h3:=fq x z true m
  by_cases hz:x=z
  ·subst hz
   rw[if_pos rfl]at h3
   rw[h3]at h1
   simp only[reduceCtorEq,false_iff,Classical.not_not]at h1
   exact⟨fun _=>Or.inl rfl,fun _=>h1⟩
  ·rw[if_neg hz]at h3
   rw[h3]at h1
   constructor
   ·intro h
    right
    exact Classical.byContradiction fun hn=>(h1.1 (h2.2 hn)) h
   ·rintro (rfl|h)
    ·exact absurd rfl hz
    ·exact Classical.byContradiction fun hn=>(h2.1 (h1.2 hn)) h
 refine⟨hm,?_⟩
 clear hm
 induction m with
 |nil=>intro _;simp[cO]
 |cons p m ih=>
  intro hn
  rw[List.map_cons,List.nodup_cons]at hn
  unfold cO
  split
  ·rename_i e
   rw[List.map_cons,List.nodup_cons]
   first|exact hn|(simp only at e ⊢;rw[←e];exact hn)
  ·rename_i e
   rw[List.map_cons,List.nodup_cons]
   refine⟨fun h=>?_,ih hn.2⟩
   have h1:=fM (k:=p.1) (m:=cO m x true)
   have h2:=fM (k:=p.1) (m:=m)
   have h3:=fq x p.1 true m
   rw[if_neg (fun h=>e h.symm)]at h3
   rw[h3]at h1
   exact (h1.1 (h2.2 hn.1)) h
theorem rA:∀{l l':List Int},l'.Perm l→l.Pairwise (· < ·)→l'.Pairwise (·≤·)→l'=l
 |[],l',hp,_,_=>List.Perm.eq_nil hp
 |a::l,[],hp,_,_=>by have:=hp.length_eq;simp at this
 |a::l,b::l',hp,hs,hs'=>by
  have hab:b=a:=by
   rw[List.pairwise_cons]at hs hs'
   rcases List.mem_cons.1 (hp.subset List.mem_cons_self) with h|h
   ·exact h
   ·have h1:=hs.1 b h
    rcases List.mem_cons.1 (hp.symm.subset List.mem_cons_self) with h2|h2
    ·exact h2.symm
    ·have:=hs'.1 a h2
     omega
  subst hab
  rw[List.pairwise_cons]at hs hs'
  rw[rA hp.cons_inv hs.2 hs'.2]
def II (l:List Int):List Int:=l.mergeSort fun x y=>decide (x≤y)
theorem Fz (l:List Int):(II l).Pairwise (·≤·):=by
 have h:=List.pairwise_mergeSort (le:=fun x y:Int=>decide (x≤y)) (fun a b c h1 h2=>by simp only[decide_eq_true_eq]at *;omega) (fun a b=>by simp only[Bool.or_eq_true,decide_eq_true_eq];omega) l
 exact h.imp fun h=>by simpa using h
theorem K8 (L:List Int) (hL:L.length≤1000000000):PCB Tryz.prog aM 44 [.row 0 1] [.row 3 1 1 ((L.map kI).map .imm)] [] [.row 3 1 1 (((II L).map kI).map .imm)]:=
 Bl Oh II (fun l=>List.length_mergeSort l) (enters_of Tryz.func44 rfl rfl)
  (fun w blk cap l hH hb hl=>by
   have hcon:=Go.Proofs.Any.slices_Sort_int Tryz.sortI blk 0 cap l w hH hb (by unfold most at hl;omega)
   change Calls Tryz.prog 44 _ _ _ at hcon
   exact hcon)
  (fun p cap w=>by
   have hcon:=Go.Proofs.Any.slices_Sort_int_none Tryz.sortI p cap w
   change Calls Tryz.prog 44 _ _ _ at hcon
   exact hcon)
  L (by unfold most;exact hL)
end Go.Proofs.YtfjibfdelbodjaaGreat.Po
