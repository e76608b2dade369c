/-
  Trees in memory, with where they lie.
-/
import Derived.Test.YtcacnelhppakoaaDoorSec
namespace Go.Proofs.YtcacnelhppakoaaDoor
open Go.RowKit (wrap32 wrap64 intOf Hid Below)
open Lab Lcs

/-- A slice of words that lies in blocks of which Q holds. -/
def WdsQ (Q : Nat → Prop) (w : World) (A : Option Addr) (n c : Nat) (L : List Wd) : Prop :=
  L.length = n ∧ n ≤ c ∧ c ≤ 9223372036854775807 ∧ (0 < n → ∃ b off, A = some ⟨b, off, none⟩ ∧ Q b ∧ ∀ j u, (wv L)[j]? = some u → w.cell? ⟨b, off + j, none⟩ = some u)
mutual
def UtQ (Q : Nat → Prop) (w : World) : Ut → List Value → Prop
  | .mk id kind label head words kids, vs => ∃ (Ah Aw Ak : Option Addr) (nh ch nw cw nk ck b off : Nat), vs = [.int .i64 id.x, .int .i64 id.y, .int .i64 id.z, .int .i64 kind, .string label, .slice Ah nh ch, .slice Aw nw cw, .slice Ak nk ck] ∧ (id.ok ∧ inI kind) ∧
      WdsQ Q w Ah nh ch head ∧ WdsQ Q w Aw nw cw words ∧ nk = kids.length ∧ nk ≤ ck ∧ ck ≤ 9223372036854775807 ∧ (0 < nk → Ak = some ⟨b, off, none⟩ ∧ Q b) ∧ UtRQ Q w b off kids
def UtRQ (Q : Nat → Prop) (w : World) (b off : Nat) : List Ut → Prop
  | [] => True
  | u :: r => Q b ∧ (∃ vs, UtQ Q w u vs ∧ ∀ j v, vs[j]? = some v → w.cell? ⟨b, off + j, none⟩ = some v) ∧ UtRQ Q w b (off + 8) r
end
theorem WdsQ.imp {Q Q' : Nat → Prop} {w w' : World} (h1 : ∀ b, Q b → Q' b) (h2 : ∀ b, Q b → w'.heap[b]? = w.heap[b]?) {A : Option Addr} {n c : Nat} {L : List Wd} (h : WdsQ Q w A n c L) : WdsQ Q' w' A n c L := by
  obtain ⟨g1, g2, g3, g4⟩ := h
  refine ⟨g1, g2, g3, fun hn => ?_⟩
  obtain ⟨b, off, e, hq, hc⟩ := g4 hn
  exact ⟨b, off, e, h1 b hq, fun j u hj => (World.cell?_of_block (a := ⟨b, off + j, none⟩) (h2 b hq)).trans (hc j u hj)⟩
mutual
theorem UtQ.imp {Q Q' : Nat → Prop} {w w' : World} (h1 : ∀ b, Q b → Q' b) (h2 : ∀ b, Q b → w'.heap[b]? = w.heap[b]?) : ∀ (u : Ut) (vs : List Value), UtQ Q w u vs → UtQ Q' w' u vs
  | .mk id kind label head words kids, vs, h => by
    unfold UtQ at h ⊢
    obtain ⟨Ah, Aw, Ak, nh, ch, nw, cw, nk, ck, b, off, e, ho, g1, g2, g3, g4, g5, g6, g7⟩ := h
    exact ⟨Ah, Aw, Ak, nh, ch, nw, cw, nk, ck, b, off, e, ho, g1.imp h1 h2, g2.imp h1 h2, g3, g4, g5, fun hn => ⟨(g6 hn).1, h1 b (g6 hn).2⟩, UtRQ.imp h1 h2 b off kids g7⟩
theorem UtRQ.imp {Q Q' : Nat → Prop} {w w' : World} (h1 : ∀ b, Q b → Q' b) (h2 : ∀ b, Q b → w'.heap[b]? = w.heap[b]?) : ∀ (b off : Nat) (l : List Ut), UtRQ Q w b off l → UtRQ Q' w' b off l
  | _, _, [], _ => by unfold UtRQ; trivial
  | b, off, u :: r, h => by
    unfold UtRQ at h ⊢
    obtain ⟨hq, ⟨vs, g1, g2⟩, g3⟩ := h
    exact ⟨h1 b hq, ⟨vs, UtQ.imp h1 h2 u vs g1, fun j v hj => (World.cell?_of_block (a := ⟨b, off + j, none⟩) (h2 b hq)).trans (g2 j v hj)⟩, UtRQ.imp h1 h2 b (off + 8) r g3⟩
end
mutual
theorem UtQ.plain {w : World} : ∀ (u : Ut) (vs : List Value), UtQ (fun b => b < w.heap.size) w u vs → UtC w u vs
  | .mk id kind label head words kids, vs, h => by
    unfold UtQ at h
    unfold UtC
    obtain ⟨Ah, Aw, Ak, nh, ch, nw, cw, nk, ck, b, off, e, ho, g1, g2, g3, g4, g5, g6, g7⟩ := h
    exact ⟨Ah, Aw, Ak, nh, ch, nw, cw, nk, ck, b, off, e, ho, g1, g2, g3, g4, g5, g6, UtRQ.plain b off kids g7⟩
theorem UtRQ.plain {w : World} : ∀ (b off : Nat) (l : List Ut), UtRQ (fun b => b < w.heap.size) w b off l → UtR w b off l
  | _, _, [], _ => by unfold UtR; trivial
  | b, off, u :: r, h => by
    unfold UtRQ at h
    unfold UtR
    obtain ⟨hq, ⟨vs, g1, g2⟩, g3⟩ := h
    exact ⟨hq, ⟨vs, UtQ.plain u vs g1, g2⟩, UtRQ.plain b (off + 8) r g3⟩
end
mutual
theorem UtC.lies {w : World} : ∀ (u : Ut) (vs : List Value), UtC w u vs → UtQ (fun b => b < w.heap.size) w u vs
  | .mk id kind label head words kids, vs, h => by
    unfold UtC at h
    unfold UtQ
    obtain ⟨Ah, Aw, Ak, nh, ch, nw, cw, nk, ck, b, off, e, ho, g1, g2, g3, g4, g5, g6, g7⟩ := h
    exact ⟨Ah, Aw, Ak, nh, ch, nw, cw, nk, ck, b, off, e, ho, g1, g2, g3, g4, g5, g6, UtR.lies b off kids g7⟩
theorem UtR.lies {w : World} : ∀ (b off : Nat) (l : List Ut), UtR w b off l → UtRQ (fun b => b < w.heap.size) w b off l
  | _, _, [], _ => by unfold UtRQ; trivial
  | b, off, u :: r, h => by
    unfold UtR at h
    unfold UtRQ
    obtain ⟨hq, ⟨vs, g1, g2⟩, g3⟩ := h
    exact ⟨hq, ⟨vs, UtC.lies u vs g1, g2⟩, UtR.lies b (off + 8) r g3⟩
end
/-- A unit's value, with where it lies. -/
def UtVQ (Q : Nat → Prop) (w : World) (u : Ut) (v : Value) : Prop := ∃ vs : List Value, v = .agg vs.toArray ∧ UtQ Q w u vs
theorem UtVQ.imp {Q Q' : Nat → Prop} {w w' : World} {u : Ut} {v : Value} (h : UtVQ Q w u v) (h1 : ∀ b, Q b → Q' b) (h2 : ∀ b, Q b → w'.heap[b]? = w.heap[b]?) : UtVQ Q' w' u v := by
  obtain ⟨vs, e, h⟩ := h
  exact ⟨vs, e, UtQ.imp h1 h2 u vs h⟩
theorem UtVQ.plain {Q : Nat → Prop} {w : World} {u : Ut} {v : Value} (h : UtVQ Q w u v) (h1 : ∀ b, Q b → b < w.heap.size) : UtV w u v := by
  obtain ⟨vs, e, h⟩ := h.imp h1 (fun _ _ => rfl)
  exact ⟨vs, e, UtQ.plain u vs h⟩
theorem UtV.lies {w : World} {u : Ut} {v : Value} (h : UtV w u v) : UtVQ (fun b => b < w.heap.size) w u v := by
  obtain ⟨vs, e, h⟩ := h
  exact ⟨vs, e, UtC.lies u vs h⟩
/-- Memory made since. -/
def Fresh (N : Nat) (w : World) : Nat → Prop := fun b => N ≤ b ∧ b < w.heap.size
theorem UtQ.shape {Q : Nat → Prop} {w : World} {u : Ut} {vs : List Value} (h : UtQ Q w u vs) : ∃ (i1 i2 i3 kd : Int) (lb : Str) (Ah Aw Ak : Option Addr) (nh ch nw cw nk ck : Nat), vs = [.int .i64 i1, .int .i64 i2, .int .i64 i3, .int .i64 kd, .string lb, .slice Ah nh ch, .slice Aw nw cw, .slice Ak nk ck] := by
  cases u with
  | mk id kind label head words kids =>
    unfold UtQ at h
    obtain ⟨Ah, Aw, Ak, nh, ch, nw, cw, nk, ck, b, off, e, _⟩ := h
    exact ⟨_, _, _, _, _, _, _, _, _, _, _, _, _, _, e⟩
theorem UtC.shape {w : World} {u : Ut} {vs : List Value} (h : UtC w u vs) : ∃ (i1 i2 i3 kd : Int) (lb : Str) (Ah Aw Ak : Option Addr) (nh ch nw cw nk ck : Nat), vs = [.int .i64 i1, .int .i64 i2, .int .i64 i3, .int .i64 kd, .string lb, .slice Ah nh ch, .slice Aw nw cw, .slice Ak nk ck] := (UtC.lies u vs h).shape
/-- The kids of a unit, with where they lie. -/
def RowQ (Q : Nat → Prop) (w : World) (A : Option Addr) (n c : Nat) (l : List Ut) : Prop :=
  n = l.length ∧ n ≤ c ∧ c ≤ 9223372036854775807 ∧ ∃ b off, (0 < n → A = some ⟨b, off, none⟩ ∧ Q b) ∧ UtRQ Q w b off l
theorem UtVQ.mk_ {Q : Nat → Prop} {w : World} {id : Trip} {kind : Int} {label : Str} {head words : List Wd} {kids : List Ut} {Ah Aw Ak : Option Addr} {nh ch nw cw nk ck : Nat} (ho : id.ok ∧ inI kind) (h1 : WdsQ Q w Ah nh ch head) (h2 : WdsQ Q w Aw nw cw words) (h3 : RowQ Q w Ak nk ck kids) :
    UtVQ Q w (.mk id kind label head words kids) (.agg #[.int .i64 id.x, .int .i64 id.y, .int .i64 id.z, .int .i64 kind, .string label, .slice Ah nh ch, .slice Aw nw cw, .slice Ak nk ck]) := by
  obtain ⟨h3, h4, h5, b, off, h6, h7⟩ := h3
  refine ⟨_, rfl, ?_⟩
  unfold UtQ
  exact ⟨Ah, Aw, Ak, nh, ch, nw, cw, nk, ck, b, off, rfl, ho, h1, h2, h3, h4, h5, h6, h7⟩
theorem utrq_of {Q : Nat → Prop} {w : World} {b : Nat} (hb : Q b) : ∀ (l : List Ut) (off : Nat), (∀ (k : Nat) (u : Ut), l[k]? = some u → ∃ vs, UtQ Q w u vs ∧ ∀ (j : Nat) (v : Value), vs[j]? = some v → w.cell? ⟨b, off + k * 8 + j, none⟩ = some v) → UtRQ Q w b off l
  | [], _, _ => by unfold UtRQ; trivial
  | u :: r, off, h => by
    unfold UtRQ
    refine ⟨hb, ?_, utrq_of hb r (off + 8) fun k u' e => ?_⟩
    · obtain ⟨vs, h1, h2⟩ := h 0 u rfl
      exact ⟨vs, h1, fun j v hj => by have := h2 j v hj; rwa [Nat.zero_mul, Nat.add_zero] at this⟩
    · obtain ⟨vs, h1, h2⟩ := h (k + 1) u' (by simpa using e)
      exact ⟨vs, h1, fun j v hj => by have := h2 j v hj; rwa [show off + (k + 1) * 8 + j = off + 8 + k * 8 + j by omega] at this⟩
theorem flat8 : ∀ (l : List (Ut × List Value)), (∀ p ∈ l, p.2.length = 8) → ∀ (k : Nat) (p : Ut × List Value), l[k]? = some p → ∀ (j : Nat) (v : Value), p.2[j]? = some v → (l.flatMap (·.2))[k * 8 + j]? = some v
  | [], _, k, p, h => by simp at h
  | a :: r, hl, 0, p, hk => by
    simp only [List.getElem?_cons_zero, Option.some.injEq] at hk
    subst hk
    intro j v hj
    rw [List.flatMap_cons, Nat.zero_mul, Nat.zero_add, List.getElem?_append_left (List.getElem?_eq_some_iff.1 hj).1]
    exact hj
  | a :: r, hl, k + 1, p, hk => by
    have ha := hl a (by simp)
    simp only [List.getElem?_cons_succ] at hk
    intro j v hj
    rw [List.flatMap_cons, List.getElem?_append_right (by rw [ha]; omega), ha, show (k + 1) * 8 + j - 8 = k * 8 + j by omega]
    exact flat8 r (fun p hp => hl p (by simp [hp])) k p hk j v hj
/-- Units in a row of the call's own. -/
theorem row_own {Q : Nat → Prop} {w : World} {base n : Nat} {e : TypeId} {A : Option Addr} {c : Nat} {us : List (Ut × List Value)} (hn : us.length = n) (h : w.ownsRow base e 8 (.slice A n c) n (us.flatMap (·.2))) (hQ : ∀ b, (Value.slice A n c).ownBlock = some b → Q b) (hu : ∀ p ∈ us, UtQ Q w p.1 p.2 ∧ p.2.length = 8) : RowQ Q w A n c (us.map (·.1)) := by
  obtain ⟨_, _, he, h2, h3⟩ := own_slice h
  injection he with _ _ e3
  subst e3
  refine ⟨by simp [hn], h2, h3, ?_⟩
  rcases Nat.eq_zero_or_pos n with h0 | h0
  · subst h0
    have : us = [] := List.eq_nil_of_length_eq_zero hn
    subst this
    exact ⟨0, 0, fun h => absurd h (by omega), by simp [UtRQ]⟩
  · obtain ⟨g, cap, hv, _, hlt⟩ := h.form h0
    injection hv with hA _ _
    subst hA
    have hq : Q g := hQ g rfl
    refine ⟨g, 0, fun _ => ⟨rfl, hq⟩, utrq_of hq _ _ fun k u hk => ?_⟩
    obtain ⟨p, hp, rfl⟩ : ∃ p, us[k]? = some p ∧ p.1 = u := by
      rw [List.getElem?_map] at hk
      obtain ⟨p, hp, he⟩ := Option.map_eq_some_iff.1 hk
      exact ⟨p, hp, he⟩
    obtain ⟨g1, g2⟩ := hu p (List.mem_of_getElem? hp)
    refine ⟨p.2, g1, fun j v hj => ?_⟩
    have h1 := flat8 us (fun p hp => (hu p hp).2) k p hp j v hj
    have h4 := h.cellAt (g := g) (k * 8 + j) (by have := (List.getElem?_eq_some_iff.1 h1).1; have := h.1; omega)
    rw [Nat.zero_add]
    exact h4.trans h1
/-- Words in a row of the call's own. -/
theorem wds_own {Q : Nat → Prop} {w : World} {base n : Nat} {e : TypeId} {A : Option Addr} {c : Nat} {L : List Wd} (h : w.ownsRow base e 4 (.slice A n c) n (wv L)) (hQ : ∀ b, base ≤ b → b < w.heap.size → Q b) : WdsQ Q w A n c L := by
  obtain ⟨_, _, he, h2, h3⟩ := own_slice h
  injection he with _ _ e3
  subst e3
  have h1 := h.1
  rw [wv_len] at h1
  refine ⟨by omega, h2, h3, fun h0 => ?_⟩
  obtain ⟨g, cap, hv, hg, hlt⟩ := h.form h0
  injection hv with hA _ _
  subst hA
  refine ⟨g, 0, rfl, hQ g hg hlt, fun j u hj => ?_⟩
  have h4 := h.cellAt (g := g) j (by have := (List.getElem?_eq_some_iff.1 hj).1; have := h.1; omega)
  rw [Nat.zero_add]
  exact h4.trans hj
theorem WdsQ.nil (Q : Nat → Prop) (w : World) : WdsQ Q w none 0 0 [] := ⟨rfl, Nat.le_refl _, by omega, fun h => absurd h (by omega)⟩
theorem RowQ.nil (Q : Nat → Prop) (w : World) : RowQ Q w none 0 0 [] := ⟨rfl, Nat.le_refl _, by omega, 0, 0, fun h => absurd h (by omega), by unfold UtRQ; trivial⟩
theorem RowQ.imp {Q Q' : Nat → Prop} {w w' : World} {A : Option Addr} {n c : Nat} {l : List Ut} (h : RowQ Q w A n c l) (h1 : ∀ b, Q b → Q' b) (h2 : ∀ b, Q b → w'.heap[b]? = w.heap[b]?) : RowQ Q' w' A n c l := by
  obtain ⟨g1, g2, g3, b, off, g4, g5⟩ := h
  exact ⟨g1, g2, g3, b, off, fun hn => ⟨(g4 hn).1, h1 b (g4 hn).2⟩, UtRQ.imp h1 h2 b off l g5⟩
end Go.Proofs.YtcacnelhppakoaaDoor
