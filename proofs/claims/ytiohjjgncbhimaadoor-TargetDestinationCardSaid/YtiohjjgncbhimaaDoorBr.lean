/-
  Steps with the reasons that they mostly have (shorter texts). Trees in memory as plain values, and back; contracts of the elder kind as calls of plain values.
-/
import Derived.Test.YtiohjjgncbhimaaDoorUv
import Derived.Test.YtiohjjgncbhimaaDoorEqs
import Derived.Test.YtiohjjgncbhimaaDoorP7
namespace Go.Proofs.YtiohjjgncbhimaaDoor.Pb
open Go Go.Pv Go.Proofs.YtiohjjgncbhimaaDoor.Pu
theorem qT {c A B : Prop} (k : A) (h : ¬ c → False := by intro hc; first | omega | (simp [eqC, cellsI, idv, idl] at hc; first | done | omega) | contradiction) : Fork c (fun _ => A) (fun _ => B) := .mk (fun _ => k) (fun hc => (h hc).elim)
theorem qF {c A B : Prop} (k : B) (h : c → False := by intro hc; first | omega | (simp [eqC, cellsI, idv, idl] at hc; first | done | omega) | contradiction) : Fork c (fun _ => A) (fun _ => B) := .mk (fun hc => (h hc).elim) (fun _ => k)
theorem qO {P X : Prop} (k : X) (h : P := by first | omega | (unfold most; omega) | decide +kernel | exact Nat.le_of_ble_eq_true rfl | assumption | (simp [most]; omega)) : Owe P X := .mk h k
theorem qSL {Γ : Ctx} {n : Nat} {A A' : List (Nat × PV)} {B B' : List Blk} (m : Nat) (hB : B.take m = B') (hm : B'.length = m)
   (hn0 : Γ.n0 ≤ m := by first | omega | (rw [h0]; exact Nat.le_of_ble_eq_true rfl))
   (hbl : B'.all (blkBelow m) = true := by first | (simp only [List.all_cons, List.all_nil, blkBelow, belowL_imm, belowL, belowB, Bool.and_true, Bool.true_and]; first | done | decide) | rfl | simp [blkBelow, belowB, belowL, belowL_imm])
   (hE : wkV m A A' := by (repeat ((conv => whnf); first | exact trivial | refine And.intro (by first | exact WkOne.any | exact WkOne.eq (by with_reducible rfl) rfl | exact WkOne.int (by first | omega | (simp; first | done | omega)) | exact WkOne.eq rfl rfl | exact WkOne.le rfl (ILe.nil _)) ?_))) : WeakA Γ n ⟨A, B⟩ ⟨A', B'⟩ := WeakA.slots m hn0 hB hm hbl hE
end Go.Proofs.YtiohjjgncbhimaaDoor.Pb
namespace Go.Proofs.YtiohjjgncbhimaaDoor.Pu
open Go Go.Pv
open Lab Lcs Go.Proofs.YtiohjjgncbhimaaDoor Go.RowKit
theorem words_to {Q : Nat → Prop} {w : World} (hQ : ∀ b, Q b → b < w.heap.size) : ∀ {L : List Wd} {b off : Nat}, RepR Q w 4 b off (L.map wdv) → ∀ j u, (wv L)[j]? = some u → w.cell? ⟨b, off + j, none⟩ = some u
 | [], _, _, _, j, u, h => by simp [wv] at h
 | a :: L, b, off, hr, j, u, h => by
   simp only [List.map_cons] at hr
   unfold RepR at hr
   obtain ⟨⟨v, h1, h2, h3⟩, h4⟩ := hr
   unfold wdv at h1
   obtain ⟨vs, e, hC⟩ := RepI_agg.1 h1
   subst e
   simp only [RepC, RepI] at hC
   obtain ⟨_, _, rfl, _, rfl, _, _, rfl, _, rfl, _, _, rfl, _, rfl, _, _, rfl, _, rfl, rfl⟩ := hC
   unfold wv at h
   match j, h with
   | 0, h => exact h3 0 u h
   | 1, h => exact h3 1 u h
   | 2, h => exact h3 2 u h
   | 3, h => exact h3 3 u h
   | j + 4, h =>
     have := words_to hQ h4 j u (by simpa using h)
     rw [show off + (j + 4) = off + 4 + j by omega]
     exact this
theorem wds_of {Q : Nat → Prop} {w : World} (hQ : ∀ b, Q b → b < w.heap.size) {L : List Wd} {v : Value} (h : RepI Q w (.sl 4 (L.map wdv)) v) : ∃ A n c, v = .slice A n c ∧ Wds w A n c L := by
 unfold RepI at h
 obtain ⟨a, c, e, h1, h2, h3⟩ := h
 rw [List.length_map] at e h1 h3
 refine ⟨a, _, c, e, rfl, h1, by unfold maxLen at h2; omega, fun hp => ?_⟩
 obtain ⟨b, off, ea, hq, hR⟩ := h3 hp
 exact ⟨b, off, ea, hQ b hq, words_to hQ hR⟩
def okU (u : Ut) : Prop := ∀ x ∈ u.all, x.id.ok ∧ inI x.kind
def okL (l : List Ut) : Prop := ∀ x ∈ Ut.alls l, x.id.ok ∧ inI x.kind
mutual
theorem utc_to {Q : Nat → Prop} {w : World} (hQ : ∀ b, Q b → b < w.heap.size) : ∀ (u : Ut) (vs : List Value), okU u → RepI Q w (uv u) (.agg vs.toArray) → UtC w u vs
 | .mk id kind label head words kids, vs, hok, h => by
   rw [uv_mk] at h
   obtain ⟨vs', e, hC⟩ := RepI_agg.1 h
   have e' : vs = vs' := by injection e with e; simpa using congrArg Array.toList e
   subst e'
   unfold RepC at hC; obtain ⟨v0, r0, rfl, _, k0, hC⟩ := hC
   unfold RepC at hC; obtain ⟨v1, r1, rfl, _, k1, hC⟩ := hC
   unfold RepC at hC; obtain ⟨v2, r2, rfl, _, k2, hC⟩ := hC
   unfold RepC at hC; obtain ⟨v3, r3, rfl, _, k3, hC⟩ := hC
   unfold RepC at hC; obtain ⟨v4, r4, rfl, _, k4, hC⟩ := hC
   unfold RepC at hC; obtain ⟨v5, r5, rfl, _, k5, hC⟩ := hC
   unfold RepC at hC; obtain ⟨v6, r6, rfl, _, k6, hC⟩ := hC
   unfold RepC at hC; obtain ⟨v7, r7, rfl, _, k7, hC⟩ := hC
   unfold RepC at hC; subst hC
   simp only [RepI] at k0 k1 k2 k3 k4
   subst k0; subst k1; subst k2; subst k3; subst k4
   obtain ⟨Ah, nh, ch, rfl, hh⟩ := wds_of hQ k5
   obtain ⟨Aw, nw, cw, rfl, hw⟩ := wds_of hQ k6
   unfold RepI at k7
   obtain ⟨a, c, rfl, g1, g2, g3⟩ := k7
   rw [List.length_map] at g1 g3 ⊢
   have hself := hok (.mk id kind label head words kids) (by rw [all_mk]; exact List.mem_cons_self)
   have hokk : okL kids := fun x hx => hok x (by rw [all_mk]; exact List.mem_cons_of_mem _ hx)
   unfold UtC
   by_cases hz : 0 < kids.length
   · obtain ⟨b, off, ea, hq, hR⟩ := g3 hz
     exact ⟨Ah, Aw, a, nh, ch, nw, cw, _, c, b, off, rfl, hself, hh, hw, rfl, g1, by unfold maxLen at g2; omega, fun _ => ⟨ea, hQ b hq⟩, utr_to hQ b (hQ b hq) off kids hokk hR⟩
   · have hk : kids = [] := List.eq_nil_of_length_eq_zero (by omega)
     subst hk
     exact ⟨Ah, Aw, a, nh, ch, nw, cw, _, c, 0, 0, rfl, hself, hh, hw, rfl, g1, by unfold maxLen at g2; omega, fun h => absurd h (by simp), by unfold UtR; trivial⟩
theorem utr_to {Q : Nat → Prop} {w : World} (hQ : ∀ b, Q b → b < w.heap.size) (b : Nat) (hb : b < w.heap.size) : ∀ (off : Nat) (l : List Ut), okL l → RepR Q w 8 b off (l.map uv) → UtR w b off l
 | _, [], _, _ => by unfold UtR; trivial
 | off, u :: r, hok, h => by
   simp only [List.map_cons] at h
   unfold RepR at h
   obtain ⟨⟨v, h1, h2, h3⟩, h4⟩ := h
   have h1' := h1
   rw [uv_eq] at h1'
   obtain ⟨vs, e, _⟩ := RepI_agg.1 h1'
   subst e
   unfold UtR
   exact ⟨hb, ⟨vs, utc_to hQ u vs (fun x hx => hok x (by unfold Ut.alls; exact List.mem_append_left _ hx)) h1, fun j v hj => h3 j v (by simpa [Value.cells] using hj)⟩, utr_to hQ b hb (off + 8) r (fun x hx => hok x (by unfold Ut.alls; exact List.mem_append_right _ hx)) h4⟩
end
theorem utv_to {Q : Nat → Prop} {w : World} (hQ : ∀ b, Q b → b < w.heap.size) {u : Ut} {v : Value} (hok : okU u) (h : RepI Q w (uv u) v) : UtV w u v := by
 have h' := h
 rw [uv_eq] at h'
 obtain ⟨vs, e, _⟩ := RepI_agg.1 h'
 subst e
 exact ⟨vs, rfl, utc_to hQ u vs hok h⟩
def envU : Env := ⟨fun _ => none, fun w => Tab w, fun _ _ h hb => h.below hb⟩
theorem lift_bool {f : FuncId} {X : Env} {args : List IV} {b : Bool} (he : ∀ xs w, (callFunc f xs).run Tryd.prog w = .ok (.enter f xs) w)
   (h : ∀ (Q : Nat → Prop) (w : World) (vs : List Value), (∀ b, Q b → b < w.heap.size) → X.R w → RepIs Q w args vs → Calls Tryd.prog f vs.toArray w fun e w' => e = .returned (.bool b) ∧ Below w.heap.size w w') : PC Tryd.prog X f args [.bool b] := by
 refine ⟨he, fun Q w vs hQ _ hR hvs => (h Q w vs hQ hR hvs).mono ?_⟩
 rintro e w' ⟨rfl, hb⟩
 exact ⟨_, Q, rfl, hb, fun b h => h, fun b h => ⟨Or.inl h, Nat.lt_of_lt_of_le (hQ b h) hb.size⟩, by unfold RepRes RepI; rfl⟩
theorem words_pc (u : Ut) (hok : okU u) : PC Tryd.prog envU 32 [uv u] [.bool (u.all.all fewB)] :=
 lift_bool (enters_of Tryd.func32 rfl rfl) fun Q w vs hQ hR hvs => by
   unfold RepIs at hvs
   obtain ⟨v, r, rfl, h1, h2⟩ := hvs
   unfold RepIs at h2
   subst h2
   exact words_any _ u v w (Nat.le_refl _) (utv_to hQ hok h1)
end Go.Proofs.YtiohjjgncbhimaaDoor.Pu
