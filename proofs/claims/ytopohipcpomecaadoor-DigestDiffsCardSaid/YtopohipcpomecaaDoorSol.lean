/-
  Plain values: slices.SortFunc of a row of the call's own, of structs of plain cells, lifted to a call that is given the row.
-/
import Derived.Shelf.SlSortCmp.WholeK
import Derived.Test.YtopohipcpomecaaDoorP7
namespace Go.Pv
open Go.RowKit (Below)
open Go.Sort (HoldsK Holds flatK putRowK putRow grow mapBlock onCells putCells get_flatK size_flatK heap_grow_old)
open Go.Proofs (sortWorldK)
set_option linter.unusedSectionVars false
section
variable {α : Type} [Inhabited α] (enc : α → List Value) (k : Nat)
theorem flat_at (hk : ∀ x, (enc x).length = k) (hk0 : 0 < k) : ∀ (L : List α) (t : Nat) (x : α) (y : Value), L[t / k]? = some x → (enc x)[t % k]? = some y → ((L.map enc).flatten)[t]? = some y
 | [], t, x, y, h, _ => by simp at h
 | a :: L, t, x, y, h, hy => by
   rw [List.map_cons, List.flatten_cons]
   by_cases ht : t < k
   · rw [Nat.div_eq_of_lt ht] at h
     rw [Nat.mod_eq_of_lt ht] at hy
     obtain rfl : a = x := by simpa using h
     rw [List.getElem?_append_left (by rw [hk]; exact ht)]
     exact hy
   · have ht : k ≤ t := Nat.le_of_not_lt ht
     have e1 : t / k = (t - k) / k + 1 := by
       rw [← Nat.div_eq_sub_div hk0 ht]
     have e2 : t % k = (t - k) % k := by rw [Nat.mod_eq_sub_mod ht]
     rw [e1] at h
     rw [e2] at hy
     rw [List.getElem?_append_right (by rw [hk]; exact ht), hk]
     exact flat_at hk hk0 L (t - k) x y (by simpa using h) hy
theorem flat_len (hk : ∀ x, (enc x).length = k) : ∀ L : List α, ((L.map enc).flatten).length = L.length * k
 | [] => by simp
 | a :: L => by
   rw [List.map_cons, List.flatten_cons, List.length_append, hk, flat_len hk L, List.length_cons, Nat.succ_mul, Nat.add_comm]
theorem flat_list (hk : ∀ x, (enc x).length = k) (hk0 : 0 < k) (L : List α) : (flatK enc k L.toArray).toList = (L.map enc).flatten := by
 apply List.ext_getElem?
 intro t
 by_cases ht : t < L.length * k
 · have h1 : t / k < L.length := (Nat.div_lt_iff_lt_mul hk0).2 ht
   obtain ⟨x, hx⟩ : ∃ x, L[t / k]? = some x := ⟨_, List.getElem?_eq_getElem h1⟩
   have h2 : t % k < (enc x).length := by rw [hk]; exact Nat.mod_lt _ hk0
   rw [flat_at enc k hk hk0 L t x _ hx (List.getElem?_eq_getElem h2)]
   have hs : t < (flatK enc k L.toArray).size := by simpa using ht
   rw [Array.getElem?_toList, getElem?_pos (flatK enc k L.toArray) t hs]
   have hg := get_flatK enc k L.toArray t (by simpa using ht)
   rw [getElem!_pos (flatK enc k L.toArray) t hs] at hg
   have hxx : L.toArray[t / k]! = x := by
     rw [getElem!_pos L.toArray (t / k) (by simpa using h1)]
     simpa using (List.getElem?_eq_some_iff.1 hx).2
   rw [hg, hxx, getElem!_pos (enc x) (t % k) h2]
 · rw [List.getElem?_eq_none (by simpa using Nat.le_of_not_lt ht), List.getElem?_eq_none (by rw [flat_len enc k hk]; exact Nat.le_of_not_lt ht)]
variable (ev : α → IV)
structure Enc : Prop where
 len : ∀ x, (enc x).length = k
 pos : 0 < k
 one : ∀ x, ∀ v ∈ enc x, v.oneCell' = true
 rep : ∀ (Q : Nat → Prop) (w : World) (x : α) (v : Value), RepI Q w (ev x) v ↔ v = .agg (enc x).toArray
variable {enc k ev}
theorem flat_of {kk : K} {n : Nat} {w : World} (h : Enc enc k ev) : ∀ {L : List α} {xs : List Value}, RepE kk n w k ((L.map ev).map .imm) xs → xs = (L.map enc).flatten
 | [], xs, hE => by
   simp only [List.map_nil] at hE
   unfold RepE at hE
   rw [hE]; rfl
 | a :: L, xs, hE => by
   simp only [List.map_cons] at hE
   unfold RepE at hE
   obtain ⟨v, r, h1, _, _, h2, h3⟩ := hE
   obtain rfl := (h.rep _ _ _ _).1 (Rep_imm.1 h2)
   rw [h1, flat_of h h3]
   rfl
theorem flat_rep {kk : K} {n : Nat} {w : World} (h : Enc enc k ev) : ∀ L : List α, RepE kk n w k ((L.map ev).map .imm) ((L.map enc).flatten)
 | [] => by simp [RepE]
 | a :: L => by
   simp only [List.map_cons]
   unfold RepE
   exact ⟨.agg (enc a).toArray, _, rfl, by simpa [Value.cells] using h.len a, fun u hu => h.one a u (by simpa [Value.cells] using hu), Rep_imm.2 ((h.rep _ _ _ _).2 rfl), flat_rep h L⟩
theorem sort_pcb {P : Program} {X : Env} {f g : FuncId} {e : TypeId} (hE : Enc enc k ev) (srt : List α → List α) (hlen : ∀ l, (srt l).length = l.length) (hent : ∀ az w, (callFunc f az).run P w = .ok (.enter f az) w)
   (hcon : ∀ (w : World) (blk cap : Nat) (d : Array α), HoldsK enc k w blk 0 d → blk < w.heap.size → d.size ≤ most → Calls P f #[.slice (some ⟨blk, 0, none⟩) d.size cap, .func (.func g) #[] #[]] w fun e w' => e = .returned (.tuple #[]) ∧ ∃ n os, w' = sortWorldK enc k w blk 0 n (srt d.toList).toArray os)
   (hnone : ∀ (p : Option Addr) (cap : Nat) (w : World), Calls P f #[.slice p 0 cap, .func (.func g) #[] #[]] w fun e w' => e = .returned (.tuple #[]) ∧ w' = w)
   (L : List α) (hL : L.length ≤ most) : PCB P X f [.row 0 1, .imm (.fn g)] [.row e k 1 ((L.map ev).map .imm)] [] [.row e k 1 (((srt L).map ev).map .imm)] := by
 refine ⟨hent, rfl, fun Γ kk w vs hΓ hI hT => ?_⟩
 unfold RepT at hT
 obtain ⟨v, r1, rfl, hv, hT⟩ := hT
 unfold RepT at hT
 obtain ⟨v1, r2, rfl, h1, hT⟩ := hT
 unfold RepT at hT
 subst hT
 rw [Rep_imm] at h1
 unfold RepI at h1
 subst h1
 have hb : [Blk.row e k 1 ((L.map ev).map .imm)][0]? = some (.row e k 1 ((L.map ev).map .imm)) := rfl
 obtain ⟨xs, hvr, hown, hxE, hG⟩ := ref_row (s := ⟨[], [Blk.row e k 1 ((L.map ev).map .imm)]⟩) hI hv hb
 have hml : ((L.map ev).map PV.imm).length = L.length := by simp
 have hms : (((srt L).map ev).map PV.imm).length = L.length := by simp [hlen]
 obtain rfl := flat_of hE hxE
 rw [hml] at hown
 have fin : ∀ w' : World, Below Γ.N w w' → (∀ b, b < w.heap.size → some b ≠ base (kk.ρ 0) → w'.heap[b]? = w.heap[b]?) → (∀ b, base (kk.ρ 0) = some b → b < w'.heap.size) → w'.ownsRow Γ.N e k (kk.ρ 0) L.length (((srt L).map enc).flatten) →
     ∃ u k', Ending.returned (Value.tuple #[]) = .returned u ∧ Ext kk 1 w k' 1 w' ∧ Inv Γ k' [.row e k 1 (((srt L).map ev).map .imm)] w' ∧ Rep k' 1 w' (resQ []) u := by
   intro w' hbel hoth hlt hrow
   obtain ⟨q1, q2⟩ := inv_put (v := kk.ρ 0) (g := 1) (y := .row e k 1 (((srt L).map ev).map .imm)) (w' := w') hI hb (Or.inr ⟨hG, rfl⟩) hbel hoth (fun b hb' => ⟨Or.inr hb', hlt b hb'⟩) (fun _ => ⟨K.put_G _ _ _ _, _, by rw [K.put_ρ, hms]; exact hrow, flat_rep hE _⟩)
   refine ⟨_, _, rfl, q1, q2, ?_⟩
   show Rep _ _ _ (.tup []) _
   unfold Rep RepT
   exact ⟨[], rfl, rfl⟩
 rw [← hvr] at hown fin
 by_cases h0 : L.length = 0
 · obtain ⟨ad, c, hf⟩ := own_form hown
   rw [h0] at hf
   obtain rfl : L = [] := List.length_eq_zero_iff.1 h0
   have hs0 : srt [] = [] := List.length_eq_zero_iff.1 (hlen [])
   show Calls P f #[v, .func (.func g) #[] #[]] w _
   rw [hf]
   refine (hnone ad c w).mono ?_
   rintro e' w' ⟨rfl, rfl⟩
   refine fin w' (Below.refl _ _) (fun _ _ _ => rfl) (fun b hb' => ?_) (by rw [hs0]; exact hown)
   exact (hI.sep 0 _ b hb (by show base (kk.ρ 0) = some b; rw [← hvr]; exact hb')).2.2
 · rcases hown.2 with ⟨_, h2⟩ | ⟨b, cap, cur, e1, e2, e3, e4, e5, e6, e7⟩
   · omega
   have hlt : b < w.heap.size := (Array.getElem?_eq_some_iff.1 e3).1
   have hfl := flat_list enc k hE.len hE.pos L
   have hH : HoldsK enc k w b 0 L.toArray := fun j hj => by
     have hj' : j < L.length * k := by simpa using hj
     have hc : cur[j]? = some (flatK enc k L.toArray)[j]! := by
       have h3 : (cur.toList.take (L.length * k))[j]? = (flatK enc k L.toArray).toList[j]? := by rw [e7, hfl]
       rw [List.getElem?_take, if_pos hj', Array.getElem?_toList, Array.getElem?_toList] at h3
       rw [h3, getElem!_pos (flatK enc k L.toArray) j hj, getElem?_pos (flatK enc k L.toArray) j hj]
     refine ⟨?_, by simp [World.frozen?, e3]⟩
     rw [World.cell?, e3, Nat.zero_add]
     simpa using hc
   show Calls P f #[v, .func (.func g) #[] #[]] w _
   rw [e1]
   have hsz : L.toArray.size = L.length := by simp
   have hC := hcon w b cap L.toArray hH hlt (by rw [hsz]; exact hL)
   rw [hsz] at hC
   refine hC.mono ?_
   rintro e' w' ⟨rfl, n, os, rfl⟩
   have hfs := flat_list enc k hE.len hE.pos (srt L)
   have hF : (flatK enc k (srt L).toArray).size = L.length * k := by simp [hlen]
   rw [e1] at fin
   have hheap : ∀ j, j < w.heap.size → (sortWorldK enc k w b 0 n (srt L.toArray.toList).toArray os).heap[j]? = if b = j then some (.cells (putCells id 0 (flatK enc k (srt L).toArray) cur) e (0, 0)) else w.heap[j]? := by
     intro j hj
     unfold sortWorldK
     rw [heap_grow_old _ _ (by simp [putRowK, putRow, mapBlock, Go.Sort.ahead]; exact hj)]
     by_cases hbj : b = j
     · subst hbj
       simp [putRowK, putRow, mapBlock, Go.Sort.ahead, Array.getElem?_modify, onCells, e3]
     · simp [putRowK, putRow, mapBlock, Go.Sort.ahead, Array.getElem?_modify, hbj]
   have hsize : w.heap.size ≤ (sortWorldK enc k w b 0 n (srt L.toArray.toList).toArray os).heap.size := by
     simp [sortWorldK, grow, putRowK, putRow, mapBlock, Go.Sort.ahead]
   refine fin _ ⟨rfl, rfl, rfl, hsize, fun j hj => ?_⟩ (fun j hj hne => ?_) (fun j hj => ?_) ?_
   · have hw : Γ.N ≤ w.heap.size := hI.le
     rw [hheap j (by omega), if_neg (by omega)]
   · rw [hheap j hj, if_neg (fun h => hne (by rw [h]; rfl))]
   · simp only [base, Option.some.injEq] at hj
     subst hj
     exact Nat.lt_of_lt_of_le hlt hsize
   · refine ⟨by rw [flat_len enc k hE.len, hlen], Or.inr ⟨b, cap, _, rfl, e2, by rw [hheap b hlt, if_pos rfl], e4, e5, ?_, ?_⟩⟩
     · simp [putCells, e6]
     · rw [← hfs]
       apply List.ext_getElem?
       intro j
       rw [List.getElem?_take]
       by_cases hj : j < L.length * k
       · have hjc : j < cur.size := by rw [e6]; exact Nat.lt_of_lt_of_le hj (Nat.mul_le_mul_right _ e4)
         rw [if_pos hj, Array.getElem?_toList, Array.getElem?_toList, getElem?_pos (flatK enc k (srt L).toArray) j (by rw [hF]; exact hj)]
         simp only [putCells, Array.getElem?_mapIdx, getElem?_pos cur j hjc, Option.map_some, Nat.zero_le, true_and, Nat.zero_add, id_eq, Nat.sub_zero]
         rw [if_pos (by rw [hF]; exact hj), getElem!_pos (flatK enc k (srt L).toArray) j (by rw [hF]; exact hj)]
       · rw [if_neg hj, Array.getElem?_toList, Array.getElem?_eq_none (by rw [hF]; omega)]
end
end Go.Pv
