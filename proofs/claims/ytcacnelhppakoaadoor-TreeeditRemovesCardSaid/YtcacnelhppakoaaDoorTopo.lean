/-
  How trees that came in lie in memory: words, units.
-/
import Derived.Test.YtcacnelhppakoaaDoorTopn
namespace Go.Proofs.YtcacnelhppakoaaDoor
open Go.ChangeShapes Go.WideShapes Go.ChangeAt Go.RowKit
open Lcs

theorem wv_app : ∀ a b : List Wd, wv (a ++ b) = wv a ++ wv b
  | [], _ => rfl
  | _ :: r, b => by simp only [List.cons_append, wv, wv_app r b]
instance : Inhabited Wd := ⟨⟨ByteArray.empty, ⟨0, 0, 0⟩⟩⟩
instance : Inhabited Ut := ⟨.mk ⟨0, 0, 0⟩ 0 ByteArray.empty [] [] []⟩
theorem wrow {W : World} {x : Addr} {E : Nat → Wd} : ∀ n, (∀ i, i < n → ∀ (j : Nat) (v : Value), (wv [E i])[j]? = some v → W.cell? (x.add (i * 4 + j)) = some v) → ∀ j v, (wv ((List.range n).map E))[j]? = some v → W.cell? (x.add j) = some v
  | 0, _, j, v, hj => by simp [wv] at hj
  | n + 1, h, j, v, hj => by
    rw [List.range_succ, List.map_append, wv_app] at hj
    have hl : (wv ((List.range n).map E)).length = n * 4 := by rw [wv_len, List.length_map, List.length_range]
    by_cases hlt : j < n * 4
    · rw [List.getElem?_append_left (by rw [hl]; exact hlt)] at hj
      exact wrow n (fun i hi => h i (by omega)) j v hj
    · rw [List.getElem?_append_right (by rw [hl]; omega), hl] at hj
      have := h n (by omega) (j - n * 4) v hj
      rwa [show n * 4 + (j - n * 4) = j by omega] at this
theorem utr_of {w : World} {b : Nat} (hb : b < w.heap.size) : ∀ (l : List Ut) (off : Nat), (∀ (k : Nat) (u : Ut), l[k]? = some u → ∃ vs, UtC w u vs ∧ ∀ (j : Nat) (v : Value), vs[j]? = some v → w.cell? ⟨b, off + k * 8 + j, none⟩ = some v) → UtR w b off l
  | [], _, _ => by unfold UtR; trivial
  | u :: r, off, h => by
    unfold UtR
    refine ⟨hb, ?_, utr_of hb r (off + 8) fun k u' e => ?_⟩
    · obtain ⟨vs, h1, h2⟩ := h 0 u rfl
      exact ⟨vs, h1, fun j v hj => by have := h2 j v hj; rwa [Nat.zero_mul, Nat.add_zero] at this⟩
    · obtain ⟨vs, h1, h2⟩ := h (k + 1) u' (by simpa using e)
      exact ⟨vs, h1, fun j v hj => by have := h2 j v hj; rwa [show off + (k + 1) * 8 + j = off + 8 + k * 8 + j by omega] at this⟩
section
variable {H : Type} {enc : TypeId × Value → H} {W : World}
theorem spot_of {x : Addr} {v : Value} (h : W.cell? (x.add 0) = some v) : ∃ b off, x = (⟨b, off, none⟩ : Addr) := by
  have hs := World.cell?_spot h
  obtain ⟨b, off, sp⟩ := x
  have hsp : sp = none := by simpa [Addr.add] using hs
  subst hsp
  exact ⟨b, off, rfl⟩
set_option maxRecDepth 100000 in
/-- A slice of words. -/
theorem words_in {k : Nat} {v : Value} {y : DataW H × List MemPlace} (h : DataW.trod enc Tryd.prog W 0 (fun _ => true) true k 24 [v] = some y) :
    ∃ (A : Option Addr) (n c : Nat) (L : List Wd), v = .slice A n c ∧ Wds W A n c L := by
  have lt := DataW.trod_lt k _ _ _ h
  rcases DataW.trod_slice Tryd.underlying24 h with ⟨hcs, _⟩ | ⟨x, len, cap, elems, rest, n, _, hcs, hy, _, hl, hm, hel, hall, _, _⟩
  · injection hcs with hcs
    exact ⟨none, 0, 0, [], hcs, rfl, Nat.le_refl _, by omega, fun h0 => absurd h0 (by omega)⟩
  · injection hcs with hcs
    have each : ∀ i, i < len → ∃ a : Wd, ∀ (j : Nat) (u : Value), (wv [a])[j]? = some u → W.cell? (x.add (i * 4 + j)) = some u := by
      intro i hi
      have h1 := hall i hi
      rw [List.getElem?_eq_getElem (by omega)] at h1
      obtain ⟨cs', h2, h3⟩ := Option.bind_eq_some_iff.1 h1
      rw [cWord] at h2
      obtain ⟨_, hlen, hcell⟩ := World.cells?_some h2
      obtain ⟨a, ha⟩ := word_in hlen h3
      refine ⟨a, fun j u hj => ?_⟩
      have hj4 : j < 4 := (List.getElem?_eq_some_iff.1 hj).1
      have h4 := hcell j hj4
      rw [Deep.add_add, ha] at h4
      rw [h4]
      exact hj
    obtain ⟨t, ht⟩ := Deep.choose_lt each
    refine ⟨some x, len, cap, (List.range len).map t, hcs, by simp, hl, by unfold maxLen at hm; omega, fun h0 => ?_⟩
    obtain ⟨b, off, rfl⟩ := spot_of (ht 0 h0 0 _ rfl)
    refine ⟨b, off, rfl, lt (.cell b (off + 0)) ?_, fun j u hj => ?_⟩
    · rw [hy, cWord]
      exact List.mem_append_left _ (row_head ⟨b, off, none⟩ _ (by omega))
    · have h1 := wrow len ht j u hj
      rwa [Go.WideShapes.add_plain] at h1
set_option maxRecDepth 100000 in
/-- A unit's eight cells. -/
theorem ut_in (k : Nat) : ∀ (vs : List Value) (y : DataW H × List MemPlace), vs.length = 8 → DataW.trod enc Tryd.prog W 0 (fun _ => true) true k 27 vs = some y → ∃ u, UtC W u vs := by
  induction k using Nat.strongRecOn with
  | _ k ih =>
    intro vs y hl h
    obtain ⟨xs, n, hkn, _, _, hxl, hf⟩ := DataW.trod_struct Tryd.underlying27 h
    match xs, hxl, vs, hl with
    | [y0, y1, y2, y3, y4, y5], _, [v0, v1, v2, v3, v4, v5, v6, v7], _ =>
      have g0 := hf 0 _ rfl
      have g1 := hf 1 _ rfl
      have g2 := hf 2 _ rfl
      have g3 := hf 3 _ rfl
      have g4 := hf 4 _ rfl
      have g5 := hf 5 _ rfl
      simp [cId, cInt, cStr, cWords, cUnits] at g0 g1 g2 g3 g4 g5
      obtain ⟨id, e0, oid⟩ := id_in rfl g0
      obtain ⟨z, e1, _, okd⟩ := DataW.trod_int Tryd.underlying3 g1
      obtain ⟨s, e2, _⟩ := DataW.trod_string Tryd.underlying9 g2
      obtain ⟨Ah, nh, ch, Lh, rfl, hh⟩ := words_in g3
      obtain ⟨Aw, nw, cw, Lw, rfl, hw⟩ := words_in g4
      injection e1 with e1
      injection e2 with e2
      injection e0 with a0 e0
      injection e0 with a1 e0
      injection e0 with a2 _
      subst a0 a1 a2 e1 e2
      have lt := DataW.trod_lt n _ _ _ g5
      rcases DataW.trod_slice Tryd.underlying25 g5 with ⟨hcs, _⟩ | ⟨x, len, cap, elems, rest, n', hn', hcs, hy, _, hlc, hm, hel, hall, _, _⟩
      · injection hcs with hcs
        subst hcs
        refine ⟨.mk id z s Lh Lw [], ?_⟩
        unfold UtC
        exact ⟨Ah, Aw, none, nh, ch, nw, cw, 0, 0, 0, 0, rfl, ⟨oid, wf_in okd⟩, hh, hw, rfl, Nat.le_refl _, by omega, fun h0 => absurd h0 (by omega), by unfold UtR; trivial⟩
      · injection hcs with hcs
        subst hcs
        have each : ∀ i, i < len → ∃ u : Ut, ∃ cs', UtC W u cs' ∧ cs'.length = 8 ∧ ∀ (j : Nat) (v : Value), cs'[j]? = some v → W.cell? (x.add (i * 8 + j)) = some v := by
          intro i hi
          have h1 := hall i hi
          rw [List.getElem?_eq_getElem (by omega)] at h1
          obtain ⟨cs', h2, h3⟩ := Option.bind_eq_some_iff.1 h1
          rw [cUnit] at h2
          obtain ⟨_, hlen, hcell⟩ := World.cells?_some h2
          obtain ⟨u, hu⟩ := ih n' (by omega) cs' _ hlen h3
          refine ⟨u, cs', hu, hlen, fun j v hj => ?_⟩
          have hj8 : j < 8 := by have := (List.getElem?_eq_some_iff.1 hj).1; omega
          have h4 := hcell j hj8
          rw [Deep.add_add] at h4
          rw [h4]
          exact hj
        obtain ⟨t, ht⟩ := Deep.choose_lt each
        rcases Nat.eq_zero_or_pos len with h0 | h0
        · subst h0
          refine ⟨.mk id z s Lh Lw [], ?_⟩
          unfold UtC
          exact ⟨Ah, Aw, some x, nh, ch, nw, cw, 0, cap, 0, 0, rfl, ⟨oid, wf_in okd⟩, hh, hw, rfl, Nat.zero_le _, by unfold maxLen at hm; omega, fun h0 => absurd h0 (by omega), by unfold UtR; trivial⟩
        · obtain ⟨c0, _, hc0, hcc⟩ := ht 0 h0
          obtain ⟨b, off, rfl⟩ := spot_of (hcc 0 (c0[0]'(by omega)) (List.getElem?_eq_getElem (by omega)))
          have hlt : b < W.heap.size := lt (.cell b (off + 0)) (by
            rw [hy, cUnit]
            exact List.mem_append_left _ (row_head ⟨b, off, none⟩ _ (by omega)))
          refine ⟨.mk id z s Lh Lw ((List.range len).map t), ?_⟩
          unfold UtC
          refine ⟨Ah, Aw, some ⟨b, off, none⟩, nh, ch, nw, cw, len, cap, b, off, rfl, ⟨oid, wf_in okd⟩, hh, hw, by simp, hlc, by unfold maxLen at hm; omega, fun _ => ⟨rfl, hlt⟩, utr_of hlt _ _ fun k u e => ?_⟩
          have hk : k < len := by have := (List.getElem?_eq_some_iff.1 e).1; simpa using this
          rw [List.getElem?_map, List.getElem?_range hk] at e
          simp only [Option.map_some, Option.some.injEq] at e
          subst e
          obtain ⟨cs', h1, _, h2⟩ := ht k hk
          exact ⟨cs', h1, fun j v hj => by have := h2 j v hj; rwa [Go.WideShapes.add_plain, ← Nat.add_assoc] at this⟩
end
end Go.Proofs.YtcacnelhppakoaaDoor
