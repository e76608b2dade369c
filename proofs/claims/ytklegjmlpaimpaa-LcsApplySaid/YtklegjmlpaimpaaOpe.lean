/-
  How slices of edits that came in lie in memory.
-/
import Derived.Test.YtklegjmlpaimpaaOpz
import Derived.Test.YtklegjmlpaimpaaRap
import Derived.Deep.Slices
namespace Go.Proofs.Ytklegjmlpaimpaa
open Go.ChangeShapes Go.WideShapes Go.ChangeAt Go.RowKit
open Lcs Rise

theorem cEdit : Try.prog.cellsOf 39 = 3 := by kernel_rfl
theorem cStrs : Try.prog.cellsOf 22 = 1 := by kernel_rfl
theorem bEdit : Try.prog.bytesOf 39 = 56 := by kernel_rfl
theorem sized_all {H : Type} {P : Program} {ts : List TypeId} {ds : List (DataW H)} (h : (DataW.weightsEach P ts ds).all (· ≤ reachBytes) = true) {j : Nat} {t : TypeId} {d : DataW H} (ht : ts[j]? = some t) (hd : ds[j]? = some d) : ∀ x ∈ d.weights P t, x ≤ reachBytes := fun x hx => by
  have := List.all_eq_true.1 h _ (DataW.weights_mem_each ht hd x hx)
  simpa using this
theorem weights_mem_all {H : Type} {P : Program} {e : TypeId} : ∀ {l : List (DataW H)} {k : Nat} {d : DataW H}, l[k]? = some d → ∀ x ∈ d.weights P e, x ∈ DataW.weightsAll P e l
  | d0 :: l, 0, d, h, x, hx => by
    simp only [List.getElem?_cons_zero, Option.some.injEq] at h
    subst h
    simp only [DataW.weightsAll, List.mem_append]
    exact Or.inl hx
  | d0 :: l, k + 1, d, h, x, hx => by
    simp only [List.getElem?_cons_succ] at h
    simp only [DataW.weightsAll, List.mem_append]
    exact Or.inr (weights_mem_all h x hx)
  | [], _, _, h, _, _ => by simp at h
/-- The slice inside an element. -/
theorem strs_in {H : Type} {enc : TypeId × Value → H} {W : World} {k : Nat} {v : Value} {y : DataW H × List MemPlace}
    (h : DataW.trod enc Try.prog W 0 (fun _ => true) true k 22 [v] = some y) (hz : ∀ x ∈ y.1.weights Try.prog 22, x ≤ reachBytes) :
    ∃ (A : Option Addr) (n c : Nat) (L : List Str), v = .slice A n c ∧ Sq W A n c L := by
  obtain ⟨A, n, c, rfl⟩ : ∃ (A : Option Addr) (n c : Nat), v = .slice A n c := by
    rcases Deep.open_slice Try.underlying22 h with ⟨hcs, _⟩ | ⟨x, len, cap, m, fu, D, Pl, hcs, _⟩
    · injection hcs with hcs; exact ⟨_, _, _, hcs⟩
    · injection hcs with hcs; exact ⟨_, _, _, hcs⟩
  obtain ⟨L, hL⟩ := strs_open (d := y.1) (p := y.2) ⟨k, h⟩ (fun x hx => DataW.trod_lt k _ _ _ h x hx) (fun elems spare hd => hz _ (by rw [hd]; simp [DataW.weights, Try.underlying22]))
  exact ⟨A, n, c, L, rfl, hL⟩
/-- What one element is. -/
structure One (W : World) (x : Addr) (i : Nat) (e : Ed) (p q : Option Addr × Nat × Nat) : Prop where
  c0 : W.cell? (x.add (i * 3)) = some (.int .i64 e.pos)
  c1 : W.cell? (x.add (i * 3 + 1)) = some (.slice p.1 p.2.1 p.2.2)
  c2 : W.cell? (x.add (i * 3 + 2)) = some (.slice q.1 q.2.1 q.2.2)
  s1 : Sq W p.1 p.2.1 p.2.2 e.old
  s2 : Sq W q.1 q.2.1 q.2.2 e.new
  num : -9223372036854775808 ≤ e.pos ∧ e.pos ≤ 9223372036854775807
/-- The cells of the first edits. -/
def row3 (E : Nat → Ed) (p q : Nat → Option Addr × Nat × Nat) : Nat → List Value
  | 0 => []
  | n + 1 => row3 E p q n ++ [.int .i64 (E n).pos, .slice (p n).1 (p n).2.1 (p n).2.2, .slice (q n).1 (q n).2.1 (q n).2.2]
theorem row3_len (E : Nat → Ed) (p q : Nat → Option Addr × Nat × Nat) : ∀ n, (row3 E p q n).length = n * 3
  | 0 => rfl
  | n + 1 => by rw [row3, List.length_append, row3_len E p q n]; simp; omega
theorem row3_edc {W : World} {E : Nat → Ed} {p q : Nat → Option Addr × Nat × Nat} {x : Addr} : ∀ n, (∀ i, i < n → One W x i (E i) (p i) (q i)) → EdCells W (row3 E p q n) ((List.range n).map E)
  | 0, _ => rfl
  | n + 1, h => by
    rw [List.range_succ, List.map_append]
    exact (row3_edc n fun i hi => h i (by omega)).snoc (E n) (h n (by omega)).s1 (h n (by omega)).s2
theorem row3_at {W : World} {E : Nat → Ed} {p q : Nat → Option Addr × Nat × Nat} {x : Addr} : ∀ n, (∀ i, i < n → One W x i (E i) (p i) (q i)) → ∀ j u, (row3 E p q n)[j]? = some u → W.cell? (x.add j) = some u
  | 0, _, j, u, hj => by simp [row3] at hj
  | n + 1, h, j, u, hj => by
    by_cases hl : j < n * 3
    · rw [row3, List.getElem?_append_left (by rw [row3_len]; exact hl)] at hj
      exact row3_at n (fun i hi => h i (by omega)) j u hj
    · rw [row3, List.getElem?_append_right (by rw [row3_len]; omega), row3_len] at hj
      have hn := h n (by omega)
      obtain ⟨d, hd⟩ : ∃ d, d = j - n * 3 := ⟨_, rfl⟩
      rw [← hd] at hj
      obtain rfl : j = n * 3 + d := by omega
      match d, hj with
      | 0, hj => rw [Nat.add_zero, hn.c0]; exact hj
      | 1, hj => rw [hn.c1]; exact hj
      | 2, hj => rw [hn.c2]; exact hj
      | d + 3, hj => simp at hj

theorem edits_open {H : Type} {enc : TypeId × Value → H} {W : World} {a : Option Addr} {n c : Nat} {d : DataW H} {p : List MemPlace}
    (h : ∃ fuel, DataW.trod enc Try.prog W 0 (fun _ => true) true fuel 31 (Value.slice a n c).cells.toList = some (d, p)) (lt : ∀ x ∈ p, x.block < W.heap.size)
    (hz : ∀ x ∈ d.weights Try.prog 31, x ≤ reachBytes) : ∃ L, Eds W a n c L ∧ Nums L := by
  obtain ⟨fuel, hf⟩ := h
  rcases Deep.open_slice Try.underlying31 hf with ⟨hcs, _⟩ | ⟨x, len, cap, m, fu, D, Pl, hcs, _, hl, hm, hmm, hx, hc⟩
  · simp [Value.cells] at hcs
    obtain ⟨rfl, rfl, rfl⟩ := hcs
    exact ⟨[], Eds.nil _ _ _ (by omega), fun k hk => absurd hk (by simp)⟩
  · simp [Value.cells] at hcs
    obtain ⟨rfl, rfl, rfl⟩ := hcs
    rw [if_pos rfl] at hmm
    subst hmm
    obtain ⟨rfl, rfl⟩ := Prod.mk.inj hx
    rw [cEdit] at hc lt
    have each : ∀ i, i < n → ∃ t : Ed × (Option Addr × Nat × Nat) × (Option Addr × Nat × Nat), One W x i t.1 t.2.1 t.2.2 := by
      intro i hi
      obtain ⟨cs', h1, h2⟩ := hc i (by omega)
      obtain ⟨_, hlen, hcell⟩ := World.cells?_some h1
      obtain ⟨xs, k, hk, hxy, _, hxl, hf⟩ := DataW.trod_struct Try.underlying39 h2
      have hDi : ∀ y ∈ (D i).weights Try.prog 39, y ≤ reachBytes := fun y hy => hz y (by
        simp only [DataW.weights, Try.underlying31, List.mem_cons, List.mem_append]
        exact Or.inr (Or.inl (weights_mem_all (k := i) (by simp [hi]) y hy)))
      match xs, hxl, cs', hlen with
      | [y0, y1, y2], _, [v0, v1, v2], _ =>
        have g0 := hf 0 _ rfl
        have g1 := hf 1 _ rfl
        have g2 := hf 2 _ rfl
        simp [cInt, cStrs] at g0 g1 g2
        have e0 := hcell 0 (by omega)
        have e1 := hcell 1 (by omega)
        have e2 := hcell 2 (by omega)
        rw [Deep.add_add] at e0 e1 e2
        simp only [Prod.mk.injEq] at hxy
        have hD : D i = .agg [y0.1, y1.1, y2.1] := by simpa using hxy.1
        have hw : ∀ y, (y ∈ y1.1.weights Try.prog 22 ∨ y ∈ y2.1.weights Try.prog 22) → y ≤ reachBytes := fun y hy => hDi y (by
          rw [hD]
          simp only [DataW.weights, Try.underlying39, DataW.weightsEach, List.map, List.mem_append]
          rcases hy with hy | hy
          · exact Or.inr (Or.inl hy)
          · exact Or.inr (Or.inr (Or.inl hy)))
        obtain ⟨z, hv0, _, hwf⟩ := DataW.trod_int Try.underlying3 g0
        obtain ⟨Ao, no, co, So, rfl, so⟩ := strs_in g1 fun y hy => hw y (Or.inl hy)
        obtain ⟨An, nn, cn, Sn, rfl, sn⟩ := strs_in g2 fun y hy => hw y (Or.inr hy)
        injection hv0 with hv0
        subst hv0
        refine ⟨(⟨z, So, Sn⟩, (Ao, no, co), (An, nn, cn)), ⟨by simpa using e0, by simpa using e1, by simpa using e2, so, sn, ?_⟩⟩
        simpa [Lit.wf, IntKind.min, IntKind.max, IntKind.signed, IntKind.bits] using hwf
    haveI : Inhabited (Ed × (Option Addr × Nat × Nat) × (Option Addr × Nat × Nat)) := ⟨(⟨0, [], []⟩, (none, 0, 0), (none, 0, 0))⟩
    obtain ⟨t, ht⟩ := Deep.choose_lt each
    have hO : ∀ i, i < n → One W x i ((fun i => (t i).1) i) ((fun i => (t i).2.1) i) ((fun i => (t i).2.2) i) := ht
    have spot : 0 < n → ∃ b off, x = (⟨b, off, none⟩ : Addr) := by
      intro h0
      have hs := World.cell?_spot (ht 0 h0).c0
      obtain ⟨b, off, sp⟩ := x
      have hsp : sp = none := by simpa [Addr.add] using hs
      subst hsp
      exact ⟨b, off, rfl⟩
    refine ⟨(List.range n).map fun i => (t i).1, ⟨by simp, hl, by unfold maxLen at hm; omega, _, row3_edc n hO, fun h0 => ?_⟩, fun k hk => ?_⟩
    · obtain ⟨b, off, rfl⟩ := spot h0
      refine ⟨b, off, rfl, lt (.cell b (off + 0)) (List.mem_append_left _ (row_head ⟨b, off, none⟩ _ (by omega))), fun j u hj => ?_⟩
      have h1 := row3_at n hO j u hj
      rwa [Go.WideShapes.add_plain] at h1
    · have hk' : k < n := by simpa using hk
      have := (ht k hk').num
      have e : ed ((List.range n).map fun i => (t i).1) k = (t k).1 := by
        unfold ed
        rw [List.getD, List.getElem?_map, List.getElem?_range hk']
        rfl
      rw [e]
      exact this
end Go.Proofs.Ytklegjmlpaimpaa
