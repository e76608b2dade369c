/-
  Words in memory; validWords; the reference's Texts, row and short.
-/
import Derived.Test.YtkjgmnmngbfhhaaDoorEvr
namespace Go.Proofs.YtkjgmnmngbfhhaaDoor
open Go.RowKit (wrap32 wrap64 intOf Hid Below)
open Lab Lcs
theorem info_parts {P : Program} {e : TypeId} {z : Value} {n b : Nat} (h : (P.info? e).map (fun i => (i.zero, i.size, i.bytes)) = some (some z, n, b)) : ∃ i, P.info? e = some i ∧ i.zero = some z ∧ i.size = n ∧ i.bytes = b := by
 cases hi : P.info? e with
 | none => rw [hi] at h; cases h
 | some i =>
   rw [hi] at h
   simp only [Option.map_some, Option.some.injEq, Prod.mk.injEq] at h
   exact ⟨i, rfl, h.1, h.2.1, h.2.2⟩
theorem below2 (w : World) (o o' : Obj) : Below w.heap.size w ((w.alloc o).alloc o') := (alloc_below w o).trans ((alloc_below _ o').mono (Nat.le_of_lt (alloc_lt w o)))
theorem wv_at : ∀ {L : List Wd} {k : Nat} {a : Wd}, L[k]? = some a → (wv L)[k * 4]? = some (.string a.text) ∧ (wv L)[k * 4 + 1]? = some (.int .i64 a.mark.x) ∧ (wv L)[k * 4 + 2]? = some (.int .i64 a.mark.y) ∧ (wv L)[k * 4 + 3]? = some (.int .i64 a.mark.z)
 | [], _, _, h => by simp at h
 | c :: r, 0, a, h => by
   simp only [List.getElem?_cons_zero, Option.some.injEq] at h
   subst h
   exact ⟨rfl, rfl, rfl, rfl⟩
 | c :: r, k + 1, a, h => by
   simp only [List.getElem?_cons_succ] at h
   obtain ⟨h1, h2, h3, h4⟩ := wv_at h
   rw [show (k + 1) * 4 = k * 4 + 4 by omega]
   exact ⟨h1, by rw [show k * 4 + 4 + 1 = (k * 4 + 1) + 4 by omega]; exact h2, by rw [show k * 4 + 4 + 2 = (k * 4 + 2) + 4 by omega]; exact h3, by rw [show k * 4 + 4 + 3 = (k * 4 + 3) + 4 by omega]; exact h4⟩
theorem Wds.len {w : World} {A : Option Addr} {n c : Nat} {L : List Wd} (h : Wds w A n c L) : L.length = n := h.1
theorem Wds.at_ {w wr : World} {A : Option Addr} {n c : Nat} {L : List Wd} (h : Wds w A n c L) (hb : Below w.heap.size w wr) {k : Nat} (hk : k < n) :
   ∃ (b off : Nat) (a : Wd), A = some ⟨b, off, none⟩ ∧ b < w.heap.size ∧ L[k]? = some a ∧ wr.cell? ⟨b, off + k * 4, none⟩ = some (.string a.text) ∧ wr.cell? ⟨b, off + k * 4 + 1, none⟩ = some (.int .i64 a.mark.x) ∧ wr.cell? ⟨b, off + k * 4 + 2, none⟩ = some (.int .i64 a.mark.y) ∧ wr.cell? ⟨b, off + k * 4 + 3, none⟩ = some (.int .i64 a.mark.z) := by
 obtain ⟨h1, h2, h3, h4⟩ := h
 obtain ⟨b, off, e, hlt, hc⟩ := h4 (by omega)
 have ha : L[k]? = some L[k] := List.getElem?_eq_getElem (by omega)
 obtain ⟨g0, g1, g2, g3⟩ := wv_at ha
 refine ⟨b, off, _, e, hlt, ha, (hb.cell (p := ⟨b, off + k * 4, none⟩) hlt).trans (hc _ _ g0), ?_, ?_, ?_⟩
 · rw [Nat.add_assoc]; exact (hb.cell (p := ⟨b, off + (k * 4 + 1), none⟩) hlt).trans (hc _ _ g1)
 · rw [Nat.add_assoc]; exact (hb.cell (p := ⟨b, off + (k * 4 + 2), none⟩) hlt).trans (hc _ _ g2)
 · rw [Nat.add_assoc]; exact (hb.cell (p := ⟨b, off + (k * 4 + 3), none⟩) hlt).trans (hc _ _ g3)
end Go.Proofs.YtkjgmnmngbfhhaaDoor
