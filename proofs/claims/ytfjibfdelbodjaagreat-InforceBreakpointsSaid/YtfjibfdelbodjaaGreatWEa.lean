/-
  Corpus: numbers that occur more than once, by the program.
-/
import Derived.Shelf.Sort.Plain
import Derived.Shelf.Slices.In.SortNone
import Derived.Test.YtfjibfdelbodjaaGreatGh
import Derived.Test.YtfjibfdelbodjaaGreatSoo
namespace Go.Proofs.YtfjibfdelbodjaaGreat.Po
open Go Go.Pv Go.RowKit
set_option linter.unusedSimpArgs false
open Lab Lcs Go.Proofs.YtfjibfdelbodjaaGreat Go.Proofs.YtfjibfdelbodjaaGreat.Pu
set_option maxRecDepth 10000
set_option maxHeartbeats 32000000
theorem Gh {x z:Int} {out:List Int}:z∈iJ x out↔z=x∨z∈out:=by
 have ht:=List.takeWhile_append_dropWhile (p:=pI x) (l:=out)
 unfold iJ
 split
 ·rename_i h
  constructor
  ·exact Or.inr
  ·rintro (rfl|h')
   ·rw[←ht]
    exact List.mem_append_right _ (List.mem_of_mem_head? h)
   ·exact h'
 ·rw[List.mem_append,List.mem_cons]
  constructor
  ·rintro (h|rfl|h)
   ·right;rw[←ht];exact List.mem_append_left _ h
   ·left;rfl
   ·right;rw[←ht];exact List.mem_append_right _ h
  ·rintro (rfl|h)
   ·right;left;rfl
   ·rw[←ht]at h
    rcases List.mem_append.1 h with h|h
    ·left;exact h
    ·right;right;exact h
theorem uo {x:Int}:∀{out:List Int},out.Pairwise (· < ·)→(iJ x out).Pairwise (· < ·)
 |[],_=>by simp[iJ]
 |y::out,h=>by
  rw[List.pairwise_cons]at h
  by_cases hy:y < x
  ·have hi:iJ x (y::out)=y::iJ x out:=by
    unfold iJ pI
    simp only[List.dropWhile_cons,List.takeWhile_cons,decide_eq_true hy,if_true]
    split
    ·rfl
    ·rfl
   rw[hi,List.pairwise_cons]
   refine⟨fun z hz=>?_,uo h.2⟩
   rcases Gh.1 hz with rfl|hz
   ·exact hy
   ·exact h.1 z hz
  ·have hi:iJ x (y::out)=if y=x then y::out else x::y::out:=by
    unfold iJ pI
    simp[List.dropWhile_cons,List.takeWhile_cons,hy]
   rw[hi]
   split
   ·exact List.pairwise_cons.2 h
   ·rw[List.pairwise_cons,List.pairwise_cons]
    refine⟨fun z hz=>?_,h⟩
    rcases List.mem_cons.1 hz with rfl|hz
    ·omega
    ·have:=h.1 z hz;omega
theorem qh {m:List (Int×Bool)} {x:Int}:(∀z,z∈(cB m x true).map Prod.fst↔z=x∨z∈m.map Prod.fst)∧((m.map Prod.fst).Nodup→((cB m x true).map Prod.fst).Nodup):=by
 have hm:∀z,z∈(cB m x true).map Prod.fst↔z=x∨z∈m.map Prod.fst:=fun z=>by
  have h1:=fI (k:=z) (m:=cB m x true)
  have h2:=fI (k:=z) (m:=m)
  have h3:=eX x z true m
  by_cases hz:x=z
  ·subst hz
   rw[if_pos rfl]at h3
   rw[h3]at h1
   simp only[reduceCtorEq,false_iff,Classical.not_not]at h1
   exact⟨fun _=>Or.inl rfl,fun _=>h1⟩
  ·rw[if_neg hz]at h3
   rw[h3]at h1
   constructor
   ·intro h
    right
    exact Classical.byContradiction fun hn=>(h1.1 (h2.2 hn)) h
   ·rintro (rfl|h)
    ·exact absurd rfl hz
    ·exact Classical.byContradiction fun hn=>(h2.1 (h1.2 hn)) h
 refine⟨hm,?_⟩
 clear hm
 induction m with
 |nil=>intro _;simp[cB]
 |cons p m ih=>
  intro hn
  rw[List.map_cons,List.nodup_cons]at hn
  unfold cB
  split
  ·rename_i e
   rw[List.map_cons,List.nodup_cons]
   first|exact hn|(simp only at e ⊢;rw[←e];exact hn)
  ·rename_i e
   rw[List.map_cons,List.nodup_cons]
   refine⟨fun h=>?_,ih hn.2⟩
   have h1:=fI (k:=p.1) (m:=cB m x true)
   have h2:=fI (k:=p.1) (m:=m)
   have h3:=eX x p.1 true m
   rw[if_neg (fun h=>e h.symm)]at h3
   rw[h3]at h1
   exact (h1.1 (h2.2 hn.1)) h
theorem lM:∀{l l':List Int},l'.Perm l→l.Pairwise (· < ·)→l'.Pairwise (·≤·)→l'=l
 |[],l',hp,_,_=>List.Perm.eq_nil hp
 |a::l,[],hp,_,_=>by have:=hp.length_eq;simp at this
 |a::l,b::l',hp,hs,hs'=>by
  have hab:b=a:=by
   rw[List.pairwise_cons]at hs hs'
   rcases List.mem_cons.1 (hp.subset List.mem_cons_self) with h|h
   ·exact h
   ·have h1:=hs.1 b h
    rcases List.mem_cons.1 (hp.symm.subset List.mem_cons_self) with h2|h2
    ·exact h2.symm
    ·have:=hs'.1 a h2
     omega
  subst hab
  rw[List.pairwise_cons]at hs hs'
  rw[lM hp.cons_inv hs.2 hs'.2]
def BQ (l:List Int):List Int:=l.mergeSort fun x y=>decide (x≤y)
theorem tV (l:List Int):(BQ l).Pairwise (·≤·):=by
 have h:=List.pairwise_mergeSort (le:=fun x y:Int=>decide (x≤y)) (fun a b c h1 h2=>by simp only[decide_eq_true_eq]at *;omega) (fun a b=>by simp only[Bool.or_eq_true,decide_eq_true_eq];omega) l
 exact h.imp fun h=>by simpa using h
theorem Lc (L:List Int) (hL:L.length≤1000000000):PCB Tryz.prog aM 44 [.row 0 1] [.row 3 1 1 ((L.map kI).map .imm)] [] [.row 3 1 1 (((BQ L).map kI).map .imm)]:=
 Kl Np BQ (fun l=>List.length_mergeSort l) (enters_of Tryz.func44 rfl rfl)
  (fun w blk cap l hH hb hl=>by
   have hcon:=Go.Proofs.Any.slices_Sort_int Tryz.sortI blk 0 cap l w hH hb (by unfold most at hl;omega)
   change Calls Tryz.prog 44 _ _ _ at hcon
   exact hcon)
  (fun p cap w=>by
   have hcon:=Go.Proofs.Any.slices_Sort_int_none Tryz.sortI p cap w
   change Calls Tryz.prog 44 _ _ _ at hcon
   exact hcon)
  L (by unfold most;exact hL)
end Go.Proofs.YtfjibfdelbodjaaGreat.Po
