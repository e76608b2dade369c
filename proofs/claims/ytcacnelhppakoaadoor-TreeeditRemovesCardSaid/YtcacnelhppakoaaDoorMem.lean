/-
  Slices of strings and of integers in memory; appending to a slice of the call's own; Same and slices.Equal.
-/
import Derived.Handy
import Derived.WalkMore
import Derived.Lib.Hide
import Derived.WalkLawsBesides
import Derived.WalkSpells
import Derived.Deep.QuietTactic
import Derived.BigQuiet
import Derived.Deep.Draws
import Derived.StillTailTactics
import Derived.Maps.AppendAt
import Derived.Deep.AppendLies
import Derived.RegionTactic
import Derived.OwnWalk
import Derived.Test.YtcacnelhppakoaaDoorProg
import Derived.Test.YtcacnelhppakoaaDoorWc
import Derived.Test.YtcacnelhppakoaaDoorLcs
namespace Go.Proofs.YtcacnelhppakoaaDoor
open Go.RowKit (wrap32 wrap64 intOf Hid Below)
open Lcs

theorem below_drawn' {B : Nat} {a w w' : World} (h : Below B a w) (hq : ∃ q, w' = w.drewN q) : Below B a w' := by
  obtain ⟨q, rfl⟩ := hq
  exact below_drawn h q
theorem drew_more {w wr : World} (h : ∃ q, wr = w.drewN q) (m : Nat) : ∃ q, wr.drewN m = w.drewN q := by
  obtain ⟨q, rfl⟩ := h
  exact ⟨q + m, World.drewN_drewN _ _ _⟩
/-- The values of a list of strings, and of numbers. -/
def sv (L : List Str) : List Value := L.map Value.string
def iv (L : List Nat) : List Value := L.map fun (n : Nat) => Value.int .i64 (n : Int)
/-- A slice value that reads as a list of values of one cell each, below block B; where it has no element nothing is asked of its address. -/
def ValsAt (B : Nat) (w : World) (A : Option Addr) (n : Nat) (L : List Value) : Prop :=
  L.length = n ∧ (0 < n → ∃ b off, A = some ⟨b, off, none⟩ ∧ b < B ∧ ∀ k u, L[k]? = some u → w.cell? ⟨b, off + k, none⟩ = some u)
theorem ValsAt.below {B : Nat} {w w' : World} {A : Option Addr} {n : Nat} {L : List Value} (h : ValsAt B w A n L) (hb : Below B w w') : ValsAt B w' A n L :=
  ⟨h.1, fun hn => by
    obtain ⟨b, off, e, hlt, hc⟩ := h.2 hn
    exact ⟨b, off, e, hlt, fun k u hk => (hb.cell (p := ⟨b, off + k, none⟩) hlt).trans (hc k u hk)⟩⟩
theorem ValsAt.mono {B B' : Nat} {w : World} {A : Option Addr} {n : Nat} {L : List Value} (h : ValsAt B w A n L) (hB : B ≤ B') : ValsAt B' w A n L :=
  ⟨h.1, fun hn => by
    obtain ⟨b, off, e, hlt, hc⟩ := h.2 hn
    exact ⟨b, off, e, by omega, hc⟩⟩
theorem ValsAt.nil (B : Nat) (w : World) (A : Option Addr) : ValsAt B w A 0 [] := ⟨rfl, fun h => absurd h (by omega)⟩
/-- A part of it. -/
theorem ValsAt.cut {B : Nat} {w : World} {b off n : Nat} {L : List Value} (h : ValsAt B w (some ⟨b, off, none⟩) n L) (i m : Nat) (hm : i + m ≤ n) : ValsAt B w (some ⟨b, off + i, none⟩) m ((L.drop i).take m) := by
  refine ⟨by rw [List.length_take, List.length_drop, h.1]; omega, fun hn => ?_⟩
  obtain ⟨b', off', e, hlt, hc⟩ := h.2 (by omega)
  obtain ⟨rfl, rfl⟩ : b = b' ∧ off = off' := by simpa using e
  refine ⟨b, off + i, rfl, hlt, fun k u hk => ?_⟩
  have hk' : L[i + k]? = some u := by
    rw [List.getElem?_take] at hk
    split at hk
    · rw [List.getElem?_drop] at hk; exact hk
    · cases hk
  rw [show off + i + k = off + (i + k) by omega]
  exact hc _ u hk'
theorem ValsAt.addr {B : Nat} {w : World} {A : Option Addr} {n : Nat} {L : List Value} (h : ValsAt B w A n L) (hn : 0 < n) : ∃ b off, A = some ⟨b, off, none⟩ ∧ b < B := by
  obtain ⟨b, off, e, hlt, _⟩ := h.2 hn
  exact ⟨b, off, e, hlt⟩

/-- The k-th number. -/
def nt (L : List Nat) (k : Nat) : Nat := L.getD k 0
theorem sv_at {L : List Str} {k : Nat} (hk : k < L.length) : (sv L)[k]? = some (.string (st L k)) := by
  unfold sv st
  rw [List.getElem?_map, List.getD, List.getElem?_eq_getElem hk]
  rfl
theorem iv_at {L : List Nat} {k : Nat} (hk : k < L.length) : (iv L)[k]? = some (.int .i64 (nt L k : Int)) := by
  unfold iv nt
  rw [List.getElem?_map, List.getD, List.getElem?_eq_getElem hk]
  rfl
theorem nt_eq {L : List Nat} {k : Nat} (hk : k < L.length) : nt L k = L[k] := by
  unfold nt
  rw [List.getD, List.getElem?_eq_getElem hk]
  rfl
theorem sv_len (L : List Str) : (sv L).length = L.length := by simp [sv]
theorem iv_len (L : List Nat) : (iv L).length = L.length := by simp [iv]
theorem sv_cut (L : List Str) (i m : Nat) : ((sv L).drop i).take m = sv ((L.drop i).take m) := by simp [sv, List.map_take, List.map_drop]
theorem sv_app (a b : List Str) : sv (a ++ b) = sv a ++ sv b := by simp [sv]
theorem iv_app (a b : List Nat) : iv (a ++ b) = iv a ++ iv b := by simp [iv]
theorem sv_one (L : List Str) : ∀ u ∈ sv L, u.oneCell' = true := by
  intro u hu
  obtain ⟨s, _, rfl⟩ := List.mem_map.1 hu
  rfl
theorem iv_one (L : List Nat) : ∀ u ∈ iv L, u.oneCell' = true := by
  intro u hu
  obtain ⟨s, _, rfl⟩ := List.mem_map.1 hu
  rfl
theorem ValsAt.str {B : Nat} {w wr : World} {A : Option Addr} {n : Nat} {L : List Str} (h : ValsAt B w A n (sv L)) (hb : Below B w wr) {k : Nat} (hk : k < n) :
    ∃ b off, A = some ⟨b, off, none⟩ ∧ b < B ∧ wr.cell? ⟨b, off + k, none⟩ = some (.string (st L k)) := by
  obtain ⟨b, off, e, hlt, hc⟩ := (h.below hb).2 (by omega)
  exact ⟨b, off, e, hlt, hc k _ (sv_at (by have := h.1; rw [sv_len] at this; omega))⟩
theorem ValsAt.num {B : Nat} {w wr : World} {A : Option Addr} {n : Nat} {L : List Nat} (h : ValsAt B w A n (iv L)) (hb : Below B w wr) {k : Nat} (hk : k < n) :
    ∃ b off, A = some ⟨b, off, none⟩ ∧ b < B ∧ wr.cell? ⟨b, off + k, none⟩ = some (.int .i64 (nt L k : Int)) := by
  obtain ⟨b, off, e, hlt, hc⟩ := (h.below hb).2 (by omega)
  exact ⟨b, off, e, hlt, hc k _ (iv_at (by have := h.1; rw [iv_len] at this; omega))⟩
theorem ValsAt.of_own {w : World} {base : Nat} {e : TypeId} {A : Option Addr} {c n : Nat} {L : List Value} (h : w.ownsRow base e 1 (.slice A n c) n L) : ValsAt w.heap.size w A n L := by
  refine ⟨by have := h.1; omega, fun hn => ?_⟩
  obtain ⟨g, cap, hv, _, hlt⟩ := h.form hn
  have hA : A = some ⟨g, 0, none⟩ := by injection hv
  subst hA
  refine ⟨g, 0, rfl, hlt, fun k u hk => ?_⟩
  have h1 := h.cellAt (g := g) k (by have := (List.getElem?_eq_some_iff.1 hk).1; have := h.1; omega)
  rw [Nat.zero_add]
  exact h1.trans hk
theorem list_ext {a b : List Str} (hl : a.length = b.length) (h : ∀ k, k < a.length → st a k = st b k) : a = b := by
  refine List.ext_getElem hl fun k h1 h2 => ?_
  have := h k h1
  rwa [st_eq h1, st_eq h2] at this
theorem str_eq (a b : ByteArray) : (a.toList == b.toList) = decide (a = b) := by
  rw [Bool.eq_iff_iff, beq_iff_eq, decide_eq_true_eq]
  constructor
  · intro h
    rw [ByteArray.toList_eq, ByteArray.toList_eq] at h
    cases a; cases b
    simpa using h
  · rintro rfl; rfl

theorem info_int : (Tryd.prog.info? 3).map (fun i => (i.zero, i.size, i.bytes)) = some (some (.int .i64 0), 1, 8) := by kernel_rfl
theorem info_str : (Tryd.prog.info? 9).map (fun i => (i.zero, i.size, i.bytes)) = some (some (.string ⟨#[]⟩), 1, 16) := by kernel_rfl
theorem own_empty (w : World) (e : TypeId) (size : Nat) : (w.alloc (.cells #[] e)).ownsRow w.heap.size e size (.slice (some ⟨w.heap.size, 0, none⟩) 0 0) 0 [] :=
  ⟨by simp, Or.inr ⟨w.heap.size, 0, #[], rfl, Nat.le_refl _, (show (w.heap.push _)[w.heap.size]? = _ by simp), Nat.le_refl _, by unfold maxLen; omega, by simp, by simp⟩⟩
theorem own_below {w w' : World} {base n size : Nat} {e : TypeId} {v : Value} {xs : List Value} (h : w.ownsRow base e size v n xs) (hb : Below w.heap.size w w') : w'.ownsRow base e size v n xs :=
  h.kept (row := none) ⟨hb.os, hb.tape, hb.output, hb.size, fun k hk _ => hb.block k hk⟩ (by
    cases hv : v.ownBlock
    · exact Or.inl rfl
    · exact Or.inr (by simp))
theorem new_one (w : World) (x : Value) (t : TypeId) (j : Nat) (u : Value) (h : [x][j]? = some u) : (w.alloc (.cells #[x] t)).cell? ((⟨w.heap.size, 0, none⟩ : Addr).add j) = some u := by
  match j, h with
  | 0, h =>
    rw [show ((⟨w.heap.size, 0, none⟩ : Addr).add 0) = ⟨w.heap.size, 0, none⟩ from rfl, World.cell?_alloc_at _ _ _ _ rfl]
    exact h
theorem alloc_below (w : World) (o : Obj) : Below w.heap.size w (w.alloc o) := (Below.refl _ _).alloc (Nat.le_refl _) o
theorem own_slice {w : World} {base size n : Nat} {e : TypeId} {v : Value} {xs : List Value} (h : w.ownsRow base e size v n xs) : ∃ A c, v = .slice A n c ∧ n ≤ c ∧ c ≤ 9223372036854775807 := by
  rcases h.2 with ⟨rfl, rfl⟩ | ⟨g, cap, cur, rfl, _, _, h1, h2, _⟩
  · exact ⟨_, _, rfl, by omega, by omega⟩
  · exact ⟨_, _, rfl, h1, by unfold maxLen at h2; omega⟩
/-- A slice that came in, or was made: its length is at most its capacity. -/
def Slc (B : Nat) (w : World) (A : Option Addr) (n c : Nat) (L : List Value) : Prop := ValsAt B w A n L ∧ n ≤ c ∧ c ≤ 9223372036854775807 ∧ n ≤ 8796093022207 ∧ B ≤ w.heap.size
theorem Slc.below {B : Nat} {w w' : World} {A : Option Addr} {n c : Nat} {L : List Value} (h : Slc B w A n c L) (hb : Below w.heap.size w w') : Slc B w' A n c L :=
  ⟨h.1.below (hb.mono h.2.2.2.2), h.2.1, h.2.2.1, h.2.2.2.1, Nat.le_trans h.2.2.2.2 hb.size⟩

/-- A sequence in memory: what has a capacity has an address. -/
def Sq (w : World) (A : Option Addr) (n c : Nat) (L : List Str) : Prop := Slc w.heap.size w A n c (sv L) ∧ (0 < c → ∃ b off, A = some ⟨b, off, none⟩)
theorem Sq.below {w w' : World} {A : Option Addr} {n c : Nat} {L : List Str} (h : Sq w A n c L) (hb : Below w.heap.size w w') : Sq w' A n c L :=
  ⟨⟨(h.1.1.below hb).mono hb.size, h.1.2.1, h.1.2.2.1, h.1.2.2.2.1, Nat.le_refl _⟩, h.2⟩
theorem Sq.len {w : World} {A : Option Addr} {n c : Nat} {L : List Str} (h : Sq w A n c L) : L.length = n := by
  have := h.1.1.1
  rwa [sv_len] at this
theorem Sq.of_own {w : World} {base n c : Nat} {e : TypeId} {A : Option Addr} {L : List Str} (h : w.ownsRow base e 1 (.slice A n c) n (sv L)) (hn : n ≤ 8796093022207) : Sq w A n c L := by
  refine ⟨⟨ValsAt.of_own h, ?_, ?_, hn, Nat.le_refl _⟩, ?_⟩
  · obtain ⟨_, _, he, h1, _⟩ := own_slice h
    injection he with _ _ h3
    omega
  · obtain ⟨_, _, he, _, h1⟩ := own_slice h
    injection he with _ _ h3
    omega
  · intro hc
    rcases h.2 with ⟨he, _⟩ | ⟨g, cap, cur, he, _⟩
    · injection he with _ _ h3
      omega
    · injection he with h1 _ _
      exact ⟨g, 0, h1⟩
section
variable {P : Program} (w : World)
theorem run_append_zero (base : Nat) (t ty e : TypeId) (i : TypeInfo) (ht : P.underlying t = some (.slice e)) (hi : P.info? e = some i)
    (v : Value) (n : Nat) (xs : List Value) (hown : w.ownsRow base e 1 v n xs) (A : Option Addr) (c : Nat) (hA : A = none) : (Builtin.append_ #[t, t] ty #[v, .slice A 0 c]).run P w = .ok v w := by
  subst hA
  rcases hown.2 with ⟨rfl, rfl⟩ | ⟨g, cap, cur, rfl, _, _, hnc, _⟩
  · simp [Builtin.append_, run_underlying ht, sizeOf, typeInfo, hi, Builtin.lenOf, Builtin.firstCells]
  · simp [Builtin.append_, run_underlying ht, sizeOf, typeInfo, hi, Builtin.lenOf, Builtin.firstCells, hnc, storeCells]
theorem run_append_vals (base : Nat) (t ty e : TypeId) (i : TypeInfo) (z : Value) (bytes : Nat) (ht : P.underlying t = some (.slice e)) (hi : P.info? e = some i) (hz : i.zero = some z)
    (hsize : i.size = 1) (hby : i.bytes = bytes) (hzs : z.cells.size = 1)
    (v : Value) (n : Nat) (xs : List Value) (hown : w.ownsRow base e 1 v n xs)
    (B : Nat) (A : Option Addr) (m c : Nat) (news : List Value) (hr : ValsAt B w A m news) (h1 : ∀ u ∈ news, u.oneCell' = true)
    (h63 : n + m ≤ maxLen) (hbytes : (n + m) * bytes ≤ 140737488355328) (hbase : base ≤ w.heap.size) :
    ∃ A' c' w', (Builtin.append_ #[t, t] ty #[v, .slice A m c]).run P w = .ok (.slice A' (n + m) c') w' ∧ w'.ownsRow base e 1 (.slice A' (n + m) c') (n + m) (xs ++ news) ∧ w.grownBy w' v.ownBlock := by
  have fin : ∀ v' w', (Builtin.append_ #[t, t] ty #[v, .slice A m c]).run P w = .ok v' w' → w'.ownsRow base e 1 v' (n + m) (xs ++ news) → w.grownBy w' v.ownBlock →
      ∃ A' c' w', (Builtin.append_ #[t, t] ty #[v, .slice A m c]).run P w = .ok (.slice A' (n + m) c') w' ∧ w'.ownsRow base e 1 (.slice A' (n + m) c') (n + m) (xs ++ news) ∧ w.grownBy w' v.ownBlock := by
    intro v' w' h2 h3 h4
    obtain ⟨A', c', rfl, _⟩ := own_slice h3
    exact ⟨A', c', w', h2, h3, h4⟩
  rcases A with _ | ad
  · have hm : m = 0 := by
      rcases Nat.eq_zero_or_pos m with h0 | h0
      · exact h0
      · obtain ⟨b, off, h, _⟩ := hr.2 h0
        cases h
    subst hm
    have hn : news = [] := List.eq_nil_of_length_eq_zero hr.1
    subst hn
    exact fin v w (run_append_zero w base t ty e i ht hi v n xs hown none c rfl) (by simpa using hown) (World.grownBy.refl w _)
  · have hcells : ∀ j u, news[j]? = some u → w.cell? (ad.add j) = some u := by
      intro j u hu
      rcases Nat.eq_zero_or_pos m with h0 | h0
      · subst h0
        have hn : news = [] := List.eq_nil_of_length_eq_zero hr.1
        subst hn
        simp at hu
      · obtain ⟨b, off, h, _, hc⟩ := hr.2 h0
        injection h with h
        subst h
        rw [Go.WideShapes.add_plain]
        exact hc j u hu
    obtain ⟨v', w', hrun, h2, h3, _⟩ := run_append_own_at (P := P) w base t ty e i z 1 bytes ht hi hz hsize hby hzs (by omega) v n xs hown ad m c news (by rw [hr.1]; omega) hcells h1 h63 hbytes hbase
    exact fin v' w' hrun h2 h3

theorem wp_append_vals {o : Oper} {a : Act} {K : Act → World → Prop} {Q : Exit → Act → World → Prop} (s x : Operand) (t : TypeId)
    (ho : o.op = .call { callee := .builtin .append, args := #[s, x], argTypes := #[t, t] })
    (base : Nat) (e : TypeId) (i : TypeInfo) (z : Value) (bytes : Nat) (ht : P.underlying t = some (.slice e)) (hi : P.info? e = some i) (hz : i.zero = some z)
    (hsize : i.size = 1) (hby : i.bytes = bytes) (hzs : z.cells.size = 1)
    (v : Value) (n : Nat) (xs : List Value) (hs : a.eval s = v) (hown : w.ownsRow base e 1 v n xs)
    (B : Nat) (A : Option Addr) (m c : Nat) (news : List Value) (hx : a.eval x = .slice A m c) (hr : ValsAt B w A m news) (h1 : ∀ u ∈ news, u.oneCell' = true)
    (h63 : n + m ≤ maxLen) (hbytes : (n + m) * bytes ≤ 140737488355328) (hbase : base ≤ w.heap.size)
    (h : ∀ A' c' w', w'.ownsRow base e 1 (.slice A' (n + m) c') (n + m) (xs ++ news) → w.grownBy w' v.ownBlock → K (a.put o.dst (.slice A' (n + m) c')) w') : o.wp P a w K Q := by
  obtain ⟨A', c', w', hrun, h2, h3⟩ := run_append_vals (P := P) w base t o.type e i z bytes ht hi hz hsize hby hzs v n xs hown B A m c news hr h1 h63 hbytes hbase
  unfold Oper.wp execOp
  simp only [ho, resolve, invoke, builtin, Sem.run_bind, Sem.run_pure, Result.andThen_ok, List.map_toArray, List.map_cons, List.map_nil, hs, hx, hrun]
  exact h A' c' w' h2 h3

theorem wpList_append_vals {ops : Array Oper} {rest : List Oper} {o : Oper} {a : Act} {Q : Exit → Act → World → Prop} (hgd : o.guard = none) (s x : Operand) (t : TypeId)
    (ho : o.op = .call { callee := .builtin .append, args := #[s, x], argTypes := #[t, t] })
    (base : Nat) (e : TypeId) (i : TypeInfo) (z : Value) (bytes : Nat) (ht : P.underlying t = some (.slice e)) (hi : P.info? e = some i) (hz : i.zero = some z)
    (hsize : i.size = 1) (hby : i.bytes = bytes) (hzs : z.cells.size = 1)
    (v : Value) (n : Nat) (xs : List Value) (hs : a.eval s = v) (hown : w.ownsRow base e 1 v n xs)
    (B : Nat) (A : Option Addr) (m c : Nat) (news : List Value) (hx : a.eval x = .slice A m c) (hr : ValsAt B w A m news) (h1 : ∀ u ∈ news, u.oneCell' = true)
    (h63 : n + m ≤ maxLen) (hbytes : (n + m) * bytes ≤ 140737488355328) (hbase : base ≤ w.heap.size)
    (h : ∀ A' c' w', w'.ownsRow base e 1 (.slice A' (n + m) c') (n + m) (xs ++ news) → w.grownBy w' v.ownBlock → wpList P ops Q rest (a.put o.dst (.slice A' (n + m) c')) w') : wpList P ops Q (o :: rest) a w :=
  wpList_plain hgd fun _ hK => wp_append_vals w s x t ho base e i z bytes ht hi hz hsize hby hzs v n xs hs hown B A m c news hx hr h1 h63 hbytes hbase fun A' c' w' h2 h3 => hK _ _ (h A' c' w' h2 h3)

theorem step_append_vals {ops : Array Oper} {o : Oper} {a : Act} {K : Act → World → Prop} {Q : Exit → Act → World → Prop} {E : Prop} (hgd : o.guard = none) (s x : Operand) (t : TypeId)
    (ho : o.op = .call { callee := .builtin .append, args := #[s, x], argTypes := #[t, t] })
    (base : Nat) (e : TypeId) (i : TypeInfo) (z : Value) (bytes : Nat) (ht : P.underlying t = some (.slice e)) (hi : P.info? e = some i) (hz : i.zero = some z)
    (hsize : i.size = 1) (hby : i.bytes = bytes) (hzs : z.cells.size = 1)
    (v : Value) (n : Nat) (xs : List Value) (hs : a.eval s = v) (hown : w.ownsRow base e 1 v n xs)
    (B : Nat) (A : Option Addr) (m c : Nat) (news : List Value) (hx : a.eval x = .slice A m c) (hr : ValsAt B w A m news) (h1 : ∀ u ∈ news, u.oneCell' = true)
    (h63 : n + m ≤ maxLen) (hbytes : (n + m) * bytes ≤ 140737488355328) (hbase : base ≤ w.heap.size)
    (h : ∀ A' c' w', w'.ownsRow base e 1 (.slice A' (n + m) c') (n + m) (xs ++ news) → w.grownBy w' v.ownBlock → K (a.put o.dst (.slice A' (n + m) c')) w') :
    if Region.wanted o (yielded ops a.tmps) = true then Oper.wp P o a w K Q else E := by
  have hw : Region.wanted o (yielded ops a.tmps) = true := by simp [Region.wanted, hgd]
  rw [if_pos hw]
  exact wp_append_vals w s x t ho base e i z bytes ht hi hz hsize hby hzs v n xs hs hown B A m c news hx hr h1 h63 hbytes hbase h
end

theorem below_own {base n size : Nat} {e : TypeId} {v : Value} {xs : List Value} {w W w' : World} (hown : W.ownsRow base e size v n xs) (hb : Below base w W) (hW : base ≤ W.heap.size) (hg : W.grownBy w' v.ownBlock) : Below base w w' :=
  Below.grown hb hg hW (fun k hk => (hown.lt k hk).1)

end Go.Proofs.YtcacnelhppakoaaDoor
