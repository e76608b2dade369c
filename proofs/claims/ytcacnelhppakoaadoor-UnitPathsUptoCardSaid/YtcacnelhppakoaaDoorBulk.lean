/-
  Trees that came in are no greater than what is read of them.
-/
import Derived.Test.YtcacnelhppakoaaDoorLaid
import Derived.Test.YtcacnelhppakoaaDoorRows
namespace Go.Proofs.YtcacnelhppakoaaDoor
open Go.ChangeShapes Go.WideShapes Go.ChangeAt Go.RowKit
open Lcs

theorem one_le {H : Type} (d : DataW H) : 1 ≤ Rows.uptoBulk d := by
  cases d with
  | lit l => cases l <;> simp [Rows.uptoBulk]
  | nil => simp [Rows.uptoBulk]
  | ptr d => simp [Rows.uptoBulk]
  | slice elems spare => simp [Rows.uptoBulk]
  | agg parts => simp [Rows.uptoBulk]
  | iface t d => simp [Rows.uptoBulk]
  | map entries => simp [Rows.uptoBulk]
  | held h => simp [Rows.uptoBulk]
theorem bulk_app {H : Type} (l r : List (DataW H)) : Rows.uptoBulkAll (l ++ r) = Rows.uptoBulkAll l + Rows.uptoBulkAll r := by
  induction l with
  | nil => simp [Rows.uptoBulkAll]
  | cons x l ih => simp only [List.cons_append, Rows.uptoBulkAll, ih]; omega
theorem counts_bulk {H : Type} (t : Nat → Ut) (l : List (DataW H × List MemPlace)) : ∀ n, n = l.length → (∀ i e, l[i]? = some e → (t i).count ≤ Rows.uptoBulk e.1) → Ut.counts ((List.range n).map t) ≤ Rows.uptoBulkAll (l.map (·.1)) := by
  suffices h : ∀ n, n ≤ l.length → (∀ i e, l[i]? = some e → (t i).count ≤ Rows.uptoBulk e.1) → Ut.counts ((List.range n).map t) ≤ Rows.uptoBulkAll ((l.take n).map (·.1)) by
    intro n hn he
    have h1 := h n (by omega) he
    rw [hn, List.take_length] at h1
    rw [hn]
    exact h1
  intro n
  induction n with
  | zero => intro _ _; simp [Ut.counts, Rows.uptoBulkAll]
  | succ n ih =>
    intro hn he
    have h1 := ih (by omega) he
    have h2 := he n (l[n]'(by omega)) (List.getElem?_eq_getElem (by omega))
    rw [List.range_succ, List.map_append, counts_app, List.take_add_one, List.getElem?_eq_getElem (show n < l.length by omega), Option.toList_some, List.map_append, bulk_app]
    simp only [List.map_cons, List.map_nil, Ut.counts, Rows.uptoBulkAll]
    omega
section
variable {H : Type} {enc : TypeId × Value → H} {W : World}
set_option maxRecDepth 100000 in
/-- A unit's eight cells, and that its tree is no greater than what is read of it. -/
theorem ut_in_bulk (k : Nat) : ∀ (vs : List Value) (y : DataW H × List MemPlace), vs.length = 8 → DataW.trod enc Tryd.prog W 0 (fun _ => true) true k 27 vs = some y → ∃ u, UtC W u vs ∧ u.count ≤ Rows.uptoBulk y.1 := by
  induction k using Nat.strongRecOn with
  | _ k ih =>
    intro vs y hl h
    obtain ⟨xs, n, hkn, hyx, _, hxl, hf⟩ := DataW.trod_struct Tryd.underlying27 h
    rw [hyx]
    clear hyx
    match xs, hxl, vs, hl with
    | [y0, y1, y2, y3, y4, y5], _, [v0, v1, v2, v3, v4, v5, v6, v7], _ =>
      have g0 := hf 0 _ rfl
      have g1 := hf 1 _ rfl
      have g2 := hf 2 _ rfl
      have g3 := hf 3 _ rfl
      have g4 := hf 4 _ rfl
      have g5 := hf 5 _ rfl
      simp [cId, cInt, cStr, cWords, cUnits] at g0 g1 g2 g3 g4 g5
      obtain ⟨id, e0, oid⟩ := id_in rfl g0
      obtain ⟨z, e1, _, okd⟩ := DataW.trod_int Tryd.underlying3 g1
      obtain ⟨s, e2, _⟩ := DataW.trod_string Tryd.underlying9 g2
      obtain ⟨Ah, nh, ch, Lh, rfl, hh⟩ := words_in g3
      obtain ⟨Aw, nw, cw, Lw, rfl, hw⟩ := words_in g4
      injection e1 with e1
      injection e2 with e2
      injection e0 with a0 e0
      injection e0 with a1 e0
      injection e0 with a2 _
      subst a0 a1 a2 e1 e2
      have lt := DataW.trod_lt n _ _ _ g5
      rcases DataW.trod_slice Tryd.underlying25 g5 with ⟨hcs, _⟩ | ⟨x, len, cap, elems, rest, n', hn', hcs, hy, _, hlc, hm, hel, hall, _, _⟩
      · injection hcs with hcs
        subst hcs
        refine ⟨.mk id z s Lh Lw [], ?_, one_le _⟩
        unfold UtC
        exact ⟨Ah, Aw, none, nh, ch, nw, cw, 0, 0, 0, 0, rfl, ⟨oid, wf_in okd⟩, hh, hw, rfl, Nat.le_refl _, by omega, fun h0 => absurd h0 (by omega), by unfold UtR; trivial⟩
      · injection hcs with hcs
        subst hcs
        have each : ∀ i, i < len → ∃ u : Ut, ∃ cs', (∀ e, elems[i]? = some e → u.count ≤ Rows.uptoBulk e.1) ∧ UtC W u cs' ∧ cs'.length = 8 ∧ ∀ (j : Nat) (v : Value), cs'[j]? = some v → W.cell? (x.add (i * 8 + j)) = some v := by
          intro i hi
          have h1 := hall i hi
          rw [List.getElem?_eq_getElem (by omega)] at h1
          obtain ⟨cs', h2, h3⟩ := Option.bind_eq_some_iff.1 h1
          rw [cUnit] at h2
          obtain ⟨_, hlen, hcell⟩ := World.cells?_some h2
          obtain ⟨u, hu, hub⟩ := ih n' (by omega) cs' _ hlen h3
          refine ⟨u, cs', fun e he => ?_, hu, hlen, fun j v hj => ?_⟩
          · rw [List.getElem?_eq_getElem (by omega)] at he
            obtain rfl := Option.some.inj he
            exact hub
          have hj8 : j < 8 := by have := (List.getElem?_eq_some_iff.1 hj).1; omega
          have h4 := hcell j hj8
          rw [Deep.add_add] at h4
          rw [h4]
          exact hj
        obtain ⟨t, ht⟩ := Deep.choose_lt each
        rcases Nat.eq_zero_or_pos len with h0 | h0
        · subst h0
          refine ⟨.mk id z s Lh Lw [], ?_, one_le _⟩
          unfold UtC
          exact ⟨Ah, Aw, some x, nh, ch, nw, cw, 0, cap, 0, 0, rfl, ⟨oid, wf_in okd⟩, hh, hw, rfl, Nat.zero_le _, by unfold maxLen at hm; omega, fun h0 => absurd h0 (by omega), by unfold UtR; trivial⟩
        · obtain ⟨c0, _, _, hc0, hcc⟩ := ht 0 h0
          obtain ⟨b, off, rfl⟩ := spot_of (hcc 0 (c0[0]'(by omega)) (List.getElem?_eq_getElem (by omega)))
          have hlt : b < W.heap.size := lt (.cell b (off + 0)) (by
            rw [hy, cUnit]
            exact List.mem_append_left _ (row_head ⟨b, off, none⟩ _ (by omega)))
          have hcnt : Ut.counts ((List.range len).map t) ≤ Rows.uptoBulkAll (elems.map (·.1)) := by
            refine counts_bulk t elems len hel.symm fun i e he => ?_
            have hi : i < len := by have := (List.getElem?_eq_some_iff.1 he).1; omega
            obtain ⟨_, h1, _⟩ := ht i hi
            exact h1 e he
          refine ⟨.mk id z s Lh Lw ((List.range len).map t), ?_, ?_⟩
          rotate_left
          · rw [show y5 = _ from hy]
            simp only [List.map_cons, List.map_nil, Rows.uptoBulk, Rows.uptoBulkAll, Ut.count]
            omega
          unfold UtC
          refine ⟨Ah, Aw, some ⟨b, off, none⟩, nh, ch, nw, cw, len, cap, b, off, rfl, ⟨oid, wf_in okd⟩, hh, hw, by simp, hlc, by unfold maxLen at hm; omega, fun _ => ⟨rfl, hlt⟩, utr_of hlt _ _ fun k u e => ?_⟩
          have hk : k < len := by have := (List.getElem?_eq_some_iff.1 e).1; simpa using this
          rw [List.getElem?_map, List.getElem?_range hk] at e
          simp only [Option.map_some, Option.some.injEq] at e
          subst e
          obtain ⟨cs', _, h1, _, h2⟩ := ht k hk
          exact ⟨cs', h1, fun j v hj => by have := h2 j v hj; rwa [Go.WideShapes.add_plain, ← Nat.add_assoc] at this⟩
end
/-- A tree that came in as an argument. -/
theorem ut_arg_bulk {H : Type} {enc : TypeId × Value → H} {W : World} {cs : Array Value} {d : DataW H} {p : List MemPlace} (hs : cs.size = Tryd.prog.cellsOf 27) (h : DataW.Trod enc Tryd.prog W 0 (fun _ => true) true 27 (.agg cs) d p) : ∃ u, UtV W u (.agg cs) ∧ u.count ≤ Rows.uptoBulk d := by
  obtain ⟨m, hm⟩ := h
  obtain ⟨u, hu, hb⟩ := ut_in_bulk m cs.toList _ (by rw [Array.length_toList, hs, cUnit]) hm
  exact ⟨u, ⟨cs.toList, by simp, hu⟩, hb⟩
end Go.Proofs.YtcacnelhppakoaaDoor
