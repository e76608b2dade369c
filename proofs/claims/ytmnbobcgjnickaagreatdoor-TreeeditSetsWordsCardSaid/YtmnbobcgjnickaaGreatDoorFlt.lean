/-
  Slices of small structs in memory.
-/
import Derived.OneCell
import Derived.Test.YtmnbobcgjnickaaGreatDoorWdc
namespace Go.Proofs.YtmnbobcgjnickaaGreatDoor
open Go.RowKit (wrap32 wrap64 intOf Hid Below)
open Lab Lcs
section
variable {α : Type} (f : α → List Value) (sz : Nat)
def fl (L : List α) : List Value := L.flatMap f
theorem fl_app (a b : List α) : fl f (a ++ b) = fl f a ++ fl f b := by simp [fl]
theorem fl_one (a : α) : fl f [a] = f a := by simp [fl]
theorem fl_len (hf : ∀ a, (f a).length = sz) : ∀ L : List α, (fl f L).length = L.length * sz
 | [] => by simp [fl]
 | a :: r => by
   have := fl_len hf r
   show (f a ++ fl f r).length = _
   rw [List.length_append, hf, this, List.length_cons, Nat.succ_mul, Nat.add_comm]
theorem fl_at (hf : ∀ a, (f a).length = sz) : ∀ {L : List α} {k : Nat} {a : α}, L[k]? = some a → ∀ (j : Nat) (u : Value), (f a)[j]? = some u → (fl f L)[k * sz + j]? = some u
 | [], _, _, h => by simp at h
 | c :: r, 0, a, h => by
   simp only [List.getElem?_cons_zero, Option.some.injEq] at h
   subst h
   intro j u hj
   show (f c ++ fl f r)[0 * sz + j]? = some u
   rw [Nat.zero_mul, Nat.zero_add, List.getElem?_append_left (List.getElem?_eq_some_iff.1 hj).1]
   exact hj
 | c :: r, k + 1, a, h => by
   simp only [List.getElem?_cons_succ] at h
   intro j u hj
   show (f c ++ fl f r)[(k + 1) * sz + j]? = some u
   rw [List.getElem?_append_right (by rw [hf, Nat.succ_mul]; omega), hf, show (k + 1) * sz + j - sz = k * sz + j by rw [Nat.succ_mul]; omega]
   exact fl_at hf h j u hj
def Fq (w : World) (A : Option Addr) (n c : Nat) (L : List α) : Prop :=
 L.length = n ∧ n ≤ c ∧ c ≤ 9223372036854775807 ∧ (0 < n → ∃ b off, A = some ⟨b, off, none⟩ ∧ b < w.heap.size ∧ ∀ j u, (fl f L)[j]? = some u → w.cell? ⟨b, off + j, none⟩ = some u)
variable {f sz}
theorem Fq.below {w w' : World} {A : Option Addr} {n c : Nat} {L : List α} (h : Fq f w A n c L) (hb : Below w.heap.size w w') : Fq f w' A n c L := by
 obtain ⟨h1, h2, h3, h4⟩ := h
 refine ⟨h1, h2, h3, fun hn => ?_⟩
 obtain ⟨b, off, e, hlt, hc⟩ := h4 hn
 exact ⟨b, off, e, Nat.lt_of_lt_of_le hlt hb.size, fun j u hj => (hb.cell (p := ⟨b, off + j, none⟩) hlt).trans (hc j u hj)⟩
theorem Fq.of_own {w : World} {base : Nat} {e : TypeId} {A : Option Addr} {c n : Nat} {L : List α} (hf : ∀ a, (f a).length = sz) (hz : 0 < sz) (h : w.ownsRow base e sz (.slice A n c) n (fl f L)) : Fq f w A n c L := by
 have hl := fl_len f sz hf L
 have h1 := h.1
 have hn : L.length = n := by
   have : L.length * sz = n * sz := by rw [← hl, h1]
   exact Nat.eq_of_mul_eq_mul_right hz this
 obtain ⟨_, _, he, h2, h3⟩ := own_slice h
 injection he with _ _ e3
 subst e3
 refine ⟨hn, h2, h3, fun hp => ?_⟩
 obtain ⟨g, cap, hv, _, hlt⟩ := h.form hp
 injection hv with hA _ _
 subst hA
 refine ⟨g, 0, rfl, hlt, fun j u hj => ?_⟩
 have hj' := (List.getElem?_eq_some_iff.1 hj).1
 have h4 := h.cellAt (g := g) j (by omega)
 rw [Nat.zero_add]
 exact h4.trans hj
theorem Fq.spot {w wr : World} {A : Option Addr} {n c : Nat} {L : List α} (hf : ∀ a, (f a).length = sz) (h : Fq f w A n c L) (hb : Below w.heap.size w wr) {k : Nat} (hk : k < n) :
   ∃ (b off : Nat) (a : α), A = some ⟨b, off, none⟩ ∧ b < w.heap.size ∧ L[k]? = some a ∧ ∀ (j : Nat) (u : Value), (f a)[j]? = some u → wr.cell? ⟨b, off + k * sz + j, none⟩ = some u := by
 obtain ⟨h1, h2, h3, h4⟩ := h
 obtain ⟨b, off, e, hlt, hc⟩ := h4 (by omega)
 have ha : L[k]? = some L[k] := List.getElem?_eq_getElem (by omega)
 refine ⟨b, off, _, e, hlt, ha, fun j u hj => ?_⟩
 rw [Nat.add_assoc]
 exact (hb.cell (p := ⟨b, off + (k * sz + j), none⟩) hlt).trans (hc _ _ (fl_at f sz hf ha j u hj))
theorem Fq.nil (w : World) (A : Option Addr) (c : Nat) (hc : c ≤ 9223372036854775807) : Fq f w A 0 c [] := ⟨rfl, Nat.zero_le _, hc, fun h => absurd h (by omega)⟩
end
def idc (t : Trip) : List Value := [.int .i64 t.x, .int .i64 t.y, .int .i64 t.z]
theorem idc_len (t : Trip) : (idc t).length = 3 := rfl
theorem idc_one : ∀ (L : List Trip), ∀ u ∈ fl idc L, u.oneCell' = true := by
 intro L u hu
 obtain ⟨t, _, hu⟩ := List.mem_flatMap.1 hu
 simp [idc] at hu
 rcases hu with rfl | rfl | rfl <;> rfl
theorem Ids_at {w wr : World} {A : Option Addr} {n c : Nat} {L : List Trip} (h : Fq idc w A n c L) (hb : Below w.heap.size w wr) {k : Nat} (hk : k < n) :
   ∃ (b off : Nat) (t : Trip), A = some ⟨b, off, none⟩ ∧ b < w.heap.size ∧ L[k]? = some t ∧ wr.cell? ⟨b, off + k * 3, none⟩ = some (.int .i64 t.x) ∧ wr.cell? ⟨b, off + k * 3 + 1, none⟩ = some (.int .i64 t.y) ∧ wr.cell? ⟨b, off + k * 3 + 2, none⟩ = some (.int .i64 t.z) := by
 obtain ⟨b, off, t, e, hlt, ht, hc⟩ := h.spot idc_len hb hk
 exact ⟨b, off, t, e, hlt, ht, hc 0 _ rfl, hc 1 _ rfl, hc 2 _ rfl⟩
end Go.Proofs.YtmnbobcgjnickaaGreatDoor
