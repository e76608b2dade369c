/-
  A unit as a value, its kids in memory, a unit in a block of its own.
-/
import Derived.Test.YtkjgmnmngbfhhaaDoorVal
namespace Go.Proofs.YtkjgmnmngbfhhaaDoor
open Go.RowKit (wrap32 wrap64 intOf Hid Below)
open Lab Lcs
def UtV (w : World) (u : Ut) (v : Value) : Prop := ∃ vs : List Value, v = .agg vs.toArray ∧ UtC w u vs
theorem UtV.below {w w' : World} {u : Ut} {v : Value} (h : UtV w u v) (hb : Below w.heap.size w w') : UtV w' u v := by
 obtain ⟨vs, e, h⟩ := h
 exact ⟨vs, e, UtC.below hb u vs h⟩
def Row (w : World) (A : Option Addr) (n c : Nat) (l : List Ut) : Prop :=
 n = l.length ∧ n ≤ c ∧ c ≤ 9223372036854775807 ∧ ∃ b off, (0 < n → A = some ⟨b, off, none⟩ ∧ b < w.heap.size) ∧ UtR w b off l
theorem Row.below {w w' : World} {A : Option Addr} {n c : Nat} {l : List Ut} (h : Row w A n c l) (hb : Below w.heap.size w w') : Row w' A n c l := by
 obtain ⟨h1, h2, h3, b, off, h4, h5⟩ := h
 exact ⟨h1, h2, h3, b, off, fun hn => ⟨(h4 hn).1, Nat.lt_of_lt_of_le (h4 hn).2 hb.size⟩, UtR.below hb b off l h5⟩
theorem Row.nil (w : World) (A : Option Addr) (c : Nat) (hc : c ≤ 9223372036854775807) : Row w A 0 c [] :=
 ⟨rfl, Nat.zero_le _, hc, 0, 0, fun h => absurd h (by omega), by unfold UtR; trivial⟩
theorem UtV.open_ {w : World} {id : Trip} {kind : Int} {label : Str} {head words : List Wd} {kids : List Ut} {v : Value} (h : UtV w (.mk id kind label head words kids) v) :
   ∃ (Ah Aw Ak : Option Addr) (nh ch nw cw nk ck : Nat), v = .agg #[.int .i64 id.x, .int .i64 id.y, .int .i64 id.z, .int .i64 kind, .string label, .slice Ah nh ch, .slice Aw nw cw, .slice Ak nk ck] ∧ (id.ok ∧ inI kind) ∧ Wds w Ah nh ch head ∧ Wds w Aw nw cw words ∧ Row w Ak nk ck kids := by
 obtain ⟨vs, e, h⟩ := h
 unfold UtC at h
 obtain ⟨Ah, Aw, Ak, nh, ch, nw, cw, nk, ck, b, off, rfl, ho, h1, h2, h3, h4, h5, h6, h7⟩ := h
 exact ⟨Ah, Aw, Ak, nh, ch, nw, cw, nk, ck, e, ho, h1, h2, h3, h4, h5, b, off, h6, h7⟩
theorem Row.at0 {w wr : World} {A : Option Addr} {n c : Nat} {l : List Ut} (h0 : Row w A n c l) (hb : Below w.heap.size w wr) {k : Nat} (hk : k < n) :
   ∃ (b off : Nat) (u : Ut) (i1 i2 i3 kd : Int) (lb : Str) (Ah Aw Ak : Option Addr) (nh ch nw cw nk ck : Nat), A = some ⟨b, off, none⟩ ∧ b < w.heap.size ∧ l[k]? = some u ∧
     UtV w u (.agg #[.int .i64 i1, .int .i64 i2, .int .i64 i3, .int .i64 kd, .string lb, .slice Ah nh ch, .slice Aw nw cw, .slice Ak nk ck]) ∧
     wr.cell? ⟨b, off + k * 8, none⟩ = some (.int .i64 i1) ∧ wr.cell? ⟨b, off + k * 8 + 1, none⟩ = some (.int .i64 i2) ∧ wr.cell? ⟨b, off + k * 8 + 2, none⟩ = some (.int .i64 i3) ∧ wr.cell? ⟨b, off + k * 8 + 3, none⟩ = some (.int .i64 kd) ∧
     wr.cell? ⟨b, off + k * 8 + 4, none⟩ = some (.string lb) ∧ wr.cell? ⟨b, off + k * 8 + 5, none⟩ = some (.slice Ah nh ch) ∧ wr.cell? ⟨b, off + k * 8 + 6, none⟩ = some (.slice Aw nw cw) ∧ wr.cell? ⟨b, off + k * 8 + 7, none⟩ = some (.slice Ak nk ck) := by
 obtain ⟨h1, h2, h3, b, off, h4, h5⟩ := h0
 obtain ⟨hA, hlt⟩ := h4 (by omega)
 have hu : l[k]? = some l[k] := List.getElem?_eq_getElem (by omega)
 obtain ⟨_, vs, h6, h7⟩ := UtR.at_ h5 hu
 obtain ⟨u, hue⟩ : ∃ u, u = l[k] := ⟨_, rfl⟩
 rw [← hue] at hu h6
 have hV : UtV w u (.agg vs.toArray) := ⟨vs, rfl, h6⟩
 cases u with
 | mk id kind label head words kids =>
   unfold UtC at h6
   obtain ⟨Ah, Aw, Ak, nh, ch, nw, cw, nk, ck, b', off', rfl, _⟩ := h6
   have c := fun (j : Nat) (v : Value) hj => (hb.cell (p := ⟨b, off + k * 8 + j, none⟩) hlt).trans (h7 j v hj)
   exact ⟨b, off, _, id.x, id.y, id.z, kind, label, Ah, Aw, Ak, nh, ch, nw, cw, nk, ck, hA, hlt, hu, hV, c 0 _ rfl, c 1 _ rfl, c 2 _ rfl, c 3 _ rfl, c 4 _ rfl, c 5 _ rfl, c 6 _ rfl, c 7 _ rfl⟩
theorem Row.at_ {w wr : World} {A : Option Addr} {n c : Nat} {l : List Ut} (h0 : Row w A n c l) (hb : Below w.heap.size w wr) {k : Nat} (hk : k < n) :
   ∃ (b off : Nat) (u : Ut) (i1 i2 i3 kd : Int) (lb : Str) (Ah Aw Ak : Option Addr) (nh ch nw cw nk ck : Nat), A = some ⟨b, off, none⟩ ∧ b < w.heap.size ∧ l[k]? = some u ∧
     UtV wr u (.agg #[.int .i64 i1, .int .i64 i2, .int .i64 i3, .int .i64 kd, .string lb, .slice Ah nh ch, .slice Aw nw cw, .slice Ak nk ck]) ∧
     wr.cell? ⟨b, off + k * 8, none⟩ = some (.int .i64 i1) ∧ wr.cell? ⟨b, off + k * 8 + 1, none⟩ = some (.int .i64 i2) ∧ wr.cell? ⟨b, off + k * 8 + 2, none⟩ = some (.int .i64 i3) ∧ wr.cell? ⟨b, off + k * 8 + 3, none⟩ = some (.int .i64 kd) ∧
     wr.cell? ⟨b, off + k * 8 + 4, none⟩ = some (.string lb) ∧ wr.cell? ⟨b, off + k * 8 + 5, none⟩ = some (.slice Ah nh ch) ∧ wr.cell? ⟨b, off + k * 8 + 6, none⟩ = some (.slice Aw nw cw) ∧ wr.cell? ⟨b, off + k * 8 + 7, none⟩ = some (.slice Ak nk ck) := by
 obtain ⟨b, off, u, i1, i2, i3, kd, lb, Ah, Aw, Ak, nh, ch, nw, cw, nk, ck, hA, hlt, hu, hV, hc⟩ := h0.at0 hb hk
 exact ⟨b, off, u, i1, i2, i3, kd, lb, Ah, Aw, Ak, nh, ch, nw, cw, nk, ck, hA, hlt, hu, hV.below hb, hc⟩
def Box8 (w : World) (g : Nat) (x0 x1 x2 x3 x4 x5 x6 x7 : Value) : Prop :=
 w.cell? ⟨g, 0, none⟩ = some x0 ∧ w.cell? ⟨g, 1, none⟩ = some x1 ∧ w.cell? ⟨g, 2, none⟩ = some x2 ∧ w.cell? ⟨g, 3, none⟩ = some x3 ∧ w.cell? ⟨g, 4, none⟩ = some x4 ∧ w.cell? ⟨g, 5, none⟩ = some x5 ∧ w.cell? ⟨g, 6, none⟩ = some x6 ∧ w.cell? ⟨g, 7, none⟩ = some x7
theorem Box8.new (w : World) (ty : TypeId) (x0 x1 x2 x3 x4 x5 x6 x7 : Value) : Box8 (w.alloc (.cells #[x0, x1, x2, x3, x4, x5, x6, x7] ty)) w.heap.size x0 x1 x2 x3 x4 x5 x6 x7 := by
 refine ⟨?_, ?_, ?_, ?_, ?_, ?_, ?_, ?_⟩ <;> · rw [World.cell?_alloc_at _ _ _ _ rfl]; rfl
theorem Box8.below {w w' : World} {g B : Nat} {x0 x1 x2 x3 x4 x5 x6 x7 : Value} (h : Box8 w g x0 x1 x2 x3 x4 x5 x6 x7) (hb : Below B w w') (hg : g < B) : Box8 w' g x0 x1 x2 x3 x4 x5 x6 x7 := by
 obtain ⟨h0, h1, h2, h3, h4, h5, h6, h7⟩ := h
 exact ⟨(hb.cell (p := ⟨g, 0, none⟩) hg).trans h0, (hb.cell (p := ⟨g, 1, none⟩) hg).trans h1, (hb.cell (p := ⟨g, 2, none⟩) hg).trans h2, (hb.cell (p := ⟨g, 3, none⟩) hg).trans h3, (hb.cell (p := ⟨g, 4, none⟩) hg).trans h4, (hb.cell (p := ⟨g, 5, none⟩) hg).trans h5, (hb.cell (p := ⟨g, 6, none⟩) hg).trans h6, (hb.cell (p := ⟨g, 7, none⟩) hg).trans h7⟩
theorem alloc_lt (w : World) (o : Obj) : w.heap.size < (w.alloc o).heap.size := by simp
end Go.Proofs.YtkjgmnmngbfhhaaDoor
