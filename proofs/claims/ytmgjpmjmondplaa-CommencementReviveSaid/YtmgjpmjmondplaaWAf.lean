/-
  The program's sets of days, as calls of plain values.
-/
import Derived.Test.YtmgjpmjmondplaaWAe
import Derived.Test.YtmgjpmjmondplaaOps
namespace Go.Proofs.Ytmgjpmjmondplaa.Pe
open Go Go.Pv Go.RowKit
set_option linter.unusedSimpArgs false
open Spans
set_option maxRecDepth 10000
set_option maxHeartbeats 16000000
theorem spans_cells {Q : Nat → Prop} {w : World} {b : Nat} : ∀ {L : List Sp} {off : Nat}, RepR Q w 2 b off (L.map spv) → ∀ k, k < L.length → w.cell? ⟨b, off + k * 2, none⟩ = some (.int .i64 (fr L k)) ∧ w.cell? ⟨b, off + k * 2 + 1, none⟩ = some (.int .i64 (to L k))
 | [], _, _, k, hk => by simp at hk
 | a :: L, off, h, k, hk => by
   simp only [List.map_cons] at h
   unfold RepR at h
   obtain ⟨⟨v, h1, h2, h3⟩, h4⟩ := h
   unfold spv at h1
   obtain ⟨vs, e, hC⟩ := RepI_agg.1 h1
   subst e
   simp only [RepC, RepI] at hC
   obtain ⟨_, _, rfl, _, rfl, _, _, rfl, _, rfl, rfl⟩ := hC
   match k, hk with
   | 0, _ => exact ⟨h3 0 _ rfl, h3 1 _ rfl⟩
   | k + 1, hk =>
     have := spans_cells h4 k (by simpa using hk)
     rw [show off + (k + 1) * 2 = off + 2 + k * 2 by omega]
     exact this
theorem cells_spans {Q : Nat → Prop} {w : World} {b : Nat} : ∀ {L : List Sp} {off : Nat}, (∀ k, k < L.length → w.cell? ⟨b, off + k * 2, none⟩ = some (.int .i64 (fr L k)) ∧ w.cell? ⟨b, off + k * 2 + 1, none⟩ = some (.int .i64 (to L k))) → RepR Q w 2 b off (L.map spv)
 | [], _, _ => by simp [RepR]
 | a :: L, off, h => by
   simp only [List.map_cons]
   unfold RepR
   obtain ⟨h1, h2⟩ := h 0 (by simp)
   refine ⟨⟨.agg #[.int .i64 a.1, .int .i64 a.2], ?_, rfl, fun j u hj => ?_⟩, cells_spans fun k hk => ?_⟩
   · unfold spv
     rw [RepI_agg]
     refine ⟨_, rfl, ?_⟩
     simp only [RepC, RepI]
     exact ⟨_, _, rfl, rfl, rfl, _, _, rfl, rfl, rfl, rfl⟩
   · match j, hj with
     | 0, hj => rw [← hj]; exact h1
     | 1, hj => rw [← hj]; exact h2
     | j + 2, hj => simp [Value.cells] at hj
   · have := h (k + 1) (by simpa using hk)
     rw [show off + (k + 1) * 2 = off + 2 + k * 2 by omega] at this
     exact this
theorem spans_at {Q : Nat → Prop} {w : World} (hQ : ∀ b, Q b → b < w.heap.size) {L : List Sp} {v : Value} (h : RepI Q w (.sl 2 (L.map spv)) v) : ∃ A n c, v = .slice A n c ∧ SpansAt w.heap.size w A n L := by
 unfold RepI at h
 obtain ⟨a, c, e, _, _, h3⟩ := h
 rw [List.length_map] at e h3
 refine ⟨a, _, c, e, rfl, fun hp => ?_⟩
 obtain ⟨b, off, ea, hq, hR⟩ := h3 hp
 exact ⟨b, off, ea, hQ b hq, spans_cells hR⟩
theorem lift_set {f : FuncId} {X : Env} {args : List IV} {Pd : Int → Bool} (he : ∀ xs w, (callFunc f xs).run Try.prog w = .ok (.enter f xs) w)
   (h : ∀ (Q : Nat → Prop) (w : World) (vs : List Value), (∀ b, Q b → b < w.heap.size) → RepIs Q w args vs → Calls Try.prog f vs.toArray w fun e w' => SetRet w.heap.size Pd e w' ∧ Below w.heap.size w w') : PC Try.prog X f args [.sl 2 ((Rm.canon Pd).map spv)] := by
 refine ⟨he, fun Q w vs hQ _ hR hvs => (h Q w vs hQ hvs).mono ?_⟩
 rintro e w' ⟨⟨A, n, c, R, rfl, hi, hs, ⟨h1, h2, h3⟩, h4⟩, hb⟩
 have hsz := hb.size
 refine ⟨_, fun b => Q b ∨ (w.heap.size ≤ b ∧ b < w'.heap.size), rfl, hb, fun b h => Or.inl h, fun b h => ?_, ?_⟩
 · rcases h with h | h
   · exact ⟨Or.inl h, Nat.lt_of_lt_of_le (hQ b h) hsz⟩
   · exact ⟨Or.inr h.1, h.2⟩
 · rw [← Rm.canon_is hi]
   show RepI _ _ (.sl 2 (R.map spv)) (.slice A n c)
   obtain ⟨k1, k2⟩ := hs
   unfold RepI
   rw [List.length_map, k1]
   refine ⟨A, c, rfl, h1, h2, fun hp => ?_⟩
   obtain ⟨b, off, e, hb2, hcell⟩ := k2 hp
   exact ⟨b, off, e, Or.inr ⟨h3 _ e, hb2⟩, cells_spans fun k hk => hcell k (by omega)⟩
theorem truncate_pc (L : List Sp) (t : Int) (hl : L.length ≤ 2000000) : PC Try.prog env0 38 [.sl 2 (L.map spv), .int .i64 t] [.sl 2 ((Rm.canon fun d => memB L d && memB [(0, t)] d).map spv)] :=
 lift_set (enters_of Try.func38 rfl rfl) fun Q w vs hQ hvs => by
   unfold RepIs at hvs
   obtain ⟨v, r, rfl, h1, h2⟩ := hvs
   unfold RepIs at h2
   obtain ⟨v2, r2, rfl, h3, h4⟩ := h2
   unfold RepIs at h4
   subst h4
   unfold RepI at h3
   subst h3
   obtain ⟨A, n, c, rfl, hz⟩ := spans_at hQ h1
   exact truncate_any L n c A t w hz (by have := hz.1; omega)
theorem extend_pc (L : List Sp) (t : Int) (hl : L.length ≤ 2000000) : PC Try.prog env0 29 [.sl 2 (L.map spv), .int .i64 t] [.sl 2 ((Rm.canon fun d => memB L d || memB [(t, 1048577)] d).map spv)] :=
 lift_set (enters_of Try.func29 rfl rfl) fun Q w vs hQ hvs => by
   unfold RepIs at hvs
   obtain ⟨v, r, rfl, h1, h2⟩ := hvs
   unfold RepIs at h2
   obtain ⟨v2, r2, rfl, h3, h4⟩ := h2
   unfold RepIs at h4
   subst h4
   unfold RepI at h3
   subst h3
   obtain ⟨A, n, c, rfl, hz⟩ := spans_at hQ h1
   exact extendfrom_any L n c A t w hz (by have := hz.1; omega)
end Go.Proofs.Ytmgjpmjmondplaa.Pe
