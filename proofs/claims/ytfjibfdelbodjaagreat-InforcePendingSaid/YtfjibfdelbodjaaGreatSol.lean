/-
  Plain values: slices.SortFunc of a row of the call's own, of structs of plain cells, lifted to a call that is given the row.
-/
import Derived.Shelf.SlSortCmp.WholeK
import Derived.Test.YtfjibfdelbodjaaGreatP7
namespace Go.Pv
open Go.RowKit (Below)
open Go.Sort (HoldsK Holds flatK putRowK putRow grow mapBlock onCells putCells get_flatK size_flatK heap_grow_old)
open Go.Proofs (sortWorldK)
set_option linter.unusedSectionVars false
section
variable {α:Type} [Inhabited α] (enc:α→List Value) (k:Nat)
theorem Kc (hk:∀x,(enc x).length=k) (hk0:0 < k):∀(L:List α) (t:Nat) (x:α) (y:Value),L[t / k]?=some x→(enc x)[t % k]?=some y→((L.map enc).flatten)[t]?=some y
 |[],t,x,y,h,_=>by simp at h
 |a::L,t,x,y,h,hy=>by
  rw[List.map_cons,List.flatten_cons]
  by_cases ht:t < k
  ·rw[Nat.div_eq_of_lt ht]at h
   rw[Nat.mod_eq_of_lt ht]at hy
   obtain rfl:a=x:=by simpa using h
   rw[List.getElem?_append_left (by rw[hk];exact ht)]
   exact hy
  ·have ht:k≤t:=Nat.le_of_not_lt ht
   have e1:t / k=(t - k) / k+1:=by
    rw[←Nat.div_eq_sub_div hk0 ht]
   have e2:t % k=(t - k) % k:=by rw[Nat.mod_eq_sub_mod ht]
   rw[e1]at h
   rw[e2]at hy
   rw[List.getElem?_append_right (by rw[hk];exact ht),hk]
   exact Kc hk hk0 L (t - k) x y (by simpa using h) hy
theorem nE (hk:∀x,(enc x).length=k):∀L:List α,((L.map enc).flatten).length=L.length*k
 |[]=>by simp
 |a::L=>by
  rw[List.map_cons,List.flatten_cons,List.length_append,hk,nE hk L,List.length_cons,Nat.succ_mul,Nat.add_comm]
theorem zW (hk:∀x,(enc x).length=k) (hk0:0 < k) (L:List α):(flatK enc k L.toArray).toList=(L.map enc).flatten:=by
 apply List.ext_getElem?
 intro t
 by_cases ht:t < L.length*k
 ·have h1:t / k < L.length:=(Nat.div_lt_iff_lt_mul hk0).2 ht
  obtain⟨x,hx⟩:∃x,L[t / k]?=some x:=⟨_,List.getElem?_eq_getElem h1⟩
  have h2:t % k < (enc x).length:=by rw[hk];exact Nat.mod_lt _ hk0
  rw[Kc enc k hk hk0 L t x _ hx (List.getElem?_eq_getElem h2)]
  have hs:t < (flatK enc k L.toArray).size:=by simpa using ht
  rw[Array.getElem?_toList,getElem?_pos (flatK enc k L.toArray) t hs]
  have hg:=get_flatK enc k L.toArray t (by simpa using ht)
  rw[getElem!_pos (flatK enc k L.toArray) t hs]at hg
  have hxx:L.toArray[t / k]! = x:=by
   rw[getElem!_pos L.toArray (t / k) (by simpa using h1)]
   simpa using (List.getElem?_eq_some_iff.1 hx).2
  rw[hg,hxx,getElem!_pos (enc x) (t % k) h2]
 ·rw[List.getElem?_eq_none (by simpa using Nat.le_of_not_lt ht),List.getElem?_eq_none (by rw[nE enc k hk];exact Nat.le_of_not_lt ht)]
variable (ev:α→IV)
structure Enc:Prop where
 len:∀x,(enc x).length=k
 pos:0 < k
 one:∀x,∀v∈enc x,v.oneCell'=true
 rep:∀(Q:Nat→Prop) (w:World) (x:α) (v:Value),aF Q w (ev x) v↔v=.agg (enc x).toArray
variable {enc k ev}
end
end Go.Pv
