/-
  Page stores: the types of this program, tables; plain stores. slices.Delete to the end of a row of strings, slices.Clone of one: as calls that are given blocks. A page store's calls, step by step. A page store's operations, step by step.
-/
import Derived.Test.YtmaapgbplbhlfaaProg
import Derived.Test.YtmaapgbplbhlfaaP6
import Derived.Test.YtmaapgbplbhlfaaShelf
namespace Go.Proofs.Ytmaapgbplbhlfaa.Pu
open Go Go.Pv
set_option linter.unusedSimpArgs false

set_option maxRecDepth 10000
theorem mixed : Try.prog.follows .mixedOrders = true := by kernel_rfl
theorem tq_int : tdOf Try.prog 3 = some ⟨false, 1, [.int .i64 0], .int .i64⟩ := by kernel_rfl
theorem tq_string : tdOf Try.prog 9 = some ⟨false, 1, [.str ⟨#[]⟩], .str⟩ := by kernel_rfl
theorem tq_bool : tdOf Try.prog 4 = some ⟨false, 1, [.bool false], .bool⟩ := by kernel_rfl
theorem tq_uint8 : tdOf Try.prog 5 = some ⟨false, 1, [.int .u8 0], .int .u8⟩ := by kernel_rfl
theorem tq_apiErrno : tdOf Try.prog 37 = some ⟨false, 1, [.int .i64 0], .int .i64⟩ := by kernel_rfl
theorem tq_s_string : tdOf Try.prog 36 = some ⟨false, 1, [.nil], .slice 9 1 16⟩ := by kernel_rfl
theorem tq_s_int : tdOf Try.prog 35 = some ⟨false, 1, [.nil], .slice 3 1 8⟩ := by kernel_rfl
theorem tq_pagestoreStore : tdOf Try.prog 49 = some ⟨true, 5, [.nil, .int .i64 0, .int .i64 0, .int .i64 0, .bool false], .struct [(0, 1, false), (1, 1, false), (2, 1, false), (3, 1, false), (4, 1, false)]⟩ := by kernel_rfl
theorem tq_pandectref13Shelf : tdOf Try.prog 46 = some ⟨true, 5, [.nil, .int .i64 0, .int .i64 0, .int .i64 0, .bool false], .struct [(0, 1, false), (1, 1, false), (2, 1, false), (3, 1, false), (4, 1, false)]⟩ := by kernel_rfl
theorem tq_pandectlaw13Call : tdOf Try.prog 31 = some ⟨true, 3, [.int .u8 0, .str ⟨#[]⟩, .int .i64 0], .struct [(0, 1, false), (1, 1, false), (2, 1, false)]⟩ := by kernel_rfl
theorem tq_s_pandectlaw13Call : tdOf Try.prog 22 = some ⟨false, 1, [.nil], .slice 31 3 32⟩ := by kernel_rfl
theorem tq_p_pagestoreStore : tdOf Try.prog 25 = some ⟨false, 1, [.np], .ptr⟩ := by kernel_rfl
theorem tq_p_pandectref13Shelf : tdOf Try.prog 27 = some ⟨false, 1, [.np], .ptr⟩ := by kernel_rfl
def tdl : List (TypeId × TD) := [(3, ⟨false, 1, [.int .i64 0], .int .i64⟩), (9, ⟨false, 1, [.str ⟨#[]⟩], .str⟩), (4, ⟨false, 1, [.bool false], .bool⟩), (5, ⟨false, 1, [.int .u8 0], .int .u8⟩), (37, ⟨false, 1, [.int .i64 0], .int .i64⟩), (36, ⟨false, 1, [.nil], .slice 9 1 16⟩), (35, ⟨false, 1, [.nil], .slice 3 1 8⟩), (49, ⟨true, 5, [.nil, .int .i64 0, .int .i64 0, .int .i64 0, .bool false], .struct [(0, 1, false), (1, 1, false), (2, 1, false), (3, 1, false), (4, 1, false)]⟩), (46, ⟨true, 5, [.nil, .int .i64 0, .int .i64 0, .int .i64 0, .bool false], .struct [(0, 1, false), (1, 1, false), (2, 1, false), (3, 1, false), (4, 1, false)]⟩), (31, ⟨true, 3, [.int .u8 0, .str ⟨#[]⟩, .int .i64 0], .struct [(0, 1, false), (1, 1, false), (2, 1, false)]⟩), (22, ⟨false, 1, [.nil], .slice 31 3 32⟩), (25, ⟨false, 1, [.np], .ptr⟩), (27, ⟨false, 1, [.np], .ptr⟩)]
theorem tdl_ok : AllTd Try.prog tdl := ⟨tq_int, tq_string, tq_bool, tq_uint8, tq_apiErrno, tq_s_string, tq_s_int, tq_pagestoreStore, tq_pandectref13Shelf, tq_pandectlaw13Call, tq_s_pandectlaw13Call, tq_p_pagestoreStore, tq_p_pandectref13Shelf, trivial⟩
def eqs : TypeId → Option (List CK) := fun _ => none
theorem eqs_ok : EqsOK Try.prog eqs := fun t ks h => by cases h
/-- Which calls are given blocks though their arguments are plain (1), and how many they make for their caller (one less than the rest). -/
def nwU (f : FuncId) : Nat := if f = 28 then 1 else if f = 10 then 2 else if f = 11 then 2 else if f = 33 then 2 else if f = 22 then 3 else 0
def tbh (fr : Nat → List Nat) (hk : Nat → Bool) : Tb := ⟨Pv.look tdl, eqs, fun _ => none, fr, hk, nwU⟩
abbrev tbf (fr : Nat → List Nat) : Tb := tbh fr fun _ => false
abbrev tbk (hk : Nat → Bool) : Tb := tbh (fun _ => []) hk
def tb0 : Tb := tbf fun _ => []
theorem tb_ok {fr : Nat → List Nat} {hk : Nat → Bool} : ∀ t d, (tbh fr hk).td t = some d → tdOf Try.prog t = some d := Pv.look_ok tdl_ok
def envU : Env := ⟨fun _ => none, fun _ => True, fun _ _ _ _ => trivial⟩
structure Sto where
  L : List ByteArray
  d : Int
  r : Int
  c : Int
  off : Bool
def sv (L : List ByteArray) : List IV := L.map .str
theorem sv_len (L : List ByteArray) : ((sv L).map PV.imm).length = L.length := by simp [sv]
theorem sv_len1 (L : List ByteArray) : (sv L).length = L.length := by simp [sv]
structure Sto.ok (s : Sto) : Prop where
  len : s.L.length ≤ 4096
  d0 : 0 ≤ s.d
  dl : s.d ≤ s.L.length
  c : in64 s.c
def dec (c : Int) : Int := if 0 < c then c - 1 else c
def perr (s : Sto) (p : Int) : Int := if s.off = true then 16 else if p < 0 ∨ (s.L.length : Int) ≤ p then 3 else 0
def app (s : Sto) (t : ByteArray) : Sto × Int × Int :=
  if s.off = true then (s, 0, 16) else if 16384 < t.size then (s, 0, 1) else if 4096 ≤ s.L.length then (s, 0, 6) else
  if s.c = 0 then (⟨s.L, s.d, s.r, s.c, true⟩, 0, 16) else (⟨s.L ++ [t], s.d, s.r, dec s.c, s.off⟩, s.L.length, 0)
def setR (s : Sto) (p : Int) : Sto × Int :=
  if s.off = true then (s, 16) else if p < 0 ∨ (s.L.length : Int) ≤ p then (s, 3) else
  if s.c = 0 then (⟨s.L, s.d, s.r, s.c, true⟩, 16) else (⟨s.L, s.L.length, p, dec s.c, s.off⟩, 0)
def cut (s : Sto) (k : Int) : Int := s.d + min (max k 0) (s.L.length - s.d)
def crash (s : Sto) (k : Int) : Sto := ⟨s.L.take (cut s k).toNat, cut s k, s.r, -1, false⟩
def rd (s : Sto) (p : Int) : ByteArray × Int := if perr s p = 0 then (s.L.getD p.toNat ⟨#[]⟩, 0) else (⟨#[]⟩, perr s p)
end Go.Proofs.Ytmaapgbplbhlfaa.Pu

namespace Go.Proofs.Ytmaapgbplbhlfaa.Pu
open Go Go.Pv
set_option linter.unusedSimpArgs false
open Go.RowKit Go.Lib Go.Sort
theorem setCell_blk {w : World} {b i : Nat} {c : Array Value} {ty : TypeId} {m : Nat × Nat} (v : Value) (h : w.heap[b]? = some (.cells c ty m)) : (w.setCell ⟨b, i, none⟩ v).heap[b]? = some (.cells (c.setIfInBounds i v) ty m) := by
  simp [World.setCell, Array.getElem?_modify, h]
theorem setCells_blk {b : Nat} {ty : TypeId} {m : Nat × Nat} : ∀ (vs : List Value) (o : Nat) (w : World) (c : Array Value), w.heap[b]? = some (.cells c ty m) → ∃ c', (w.setCells b o vs).heap[b]? = some (.cells c' ty m) ∧ c'.size = c.size
  | [], _, w, c, h => ⟨c, h, rfl⟩
  | v :: r, o, w, c, h => by
    obtain ⟨c', h1, h2⟩ := setCells_blk r (o + 1) (w.setCell ⟨b, o, none⟩ v) _ (setCell_blk v h)
    exact ⟨c', h1, h2.trans (by simp)⟩
theorem setCells_size (b : Nat) : ∀ (vs : List Value) (o : Nat) (w : World), (w.setCells b o vs).heap.size = w.heap.size
  | [], _, _ => rfl
  | v :: r, o, w => by rw [World.setCells, setCells_size b r]; simp [World.setCell]
theorem setCells_other (b : Nat) {k : Nat} (hk : k ≠ b) : ∀ (vs : List Value) (o : Nat) (w : World), (w.setCells b o vs).heap[k]? = w.heap[k]?
  | [], _, _ => rfl
  | v :: r, o, w => by
    rw [World.setCells, setCells_other b hk r]
    simp [World.setCell, Array.getElem?_modify, Ne.symm hk]
theorem belowCells {B b : Nat} {a : World} (hb : B ≤ b) : ∀ (vs : List Value) (o : Nat) {w : World}, Below B a w → Below B a (w.setCells b o vs)
  | [], _, _, h => h
  | v :: r, o, _, h => belowCells hb r (o + 1) (h.setCell (p := ⟨b, o, none⟩) hb v)
theorem belowDrew {B : Nat} {a : World} (q : Nat) {w : World} (h : Below B a w) : Below B a (w.drewN q) := ⟨h.os, h.tape, h.output, h.size, h.block⟩
/-- The cells of a row of strings. -/
theorem repE_strs {k : K} {n : Nat} {w : World} : ∀ {L : List ByteArray} {xs : List Value}, RepE k n w 1 ((sv L).map .imm) xs → xs = L.map .string
  | [], xs, h => by
    simp only [sv, List.map_nil] at h
    unfold RepE at h
    exact h
  | a :: L, xs, h => by
    simp only [sv, List.map_cons] at h
    unfold RepE at h
    obtain ⟨v, r, h1, _, _, h2, h3⟩ := h
    rw [Rep_imm] at h2
    unfold RepI at h2
    subst h2
    have h4 : r = L.map .string := repE_strs (L := L) (by simpa [sv] using h3)
    rw [h1, h4]
    rfl
theorem strs_repE {k : K} {n : Nat} {w : World} : ∀ {L : List ByteArray}, RepE k n w 1 ((sv L).map .imm) (L.map .string)
  | [] => by simp [sv, RepE]
  | a :: L => by
    simp only [sv, List.map_cons]
    unfold RepE
    exact ⟨.string a, _, rfl, rfl, fun u hu => by simp [Value.cells] at hu; subst hu; rfl, by rw [Rep_imm]; unfold RepI; rfl, by simpa [sv] using strs_repE (L := L)⟩
theorem delete_pcb (L : List ByteArray) (i : Nat) (hi : i ≤ L.length) : PCB Try.prog envU 28 [.row 0 1, .imm (.int .i64 i), .imm (.int .i64 L.length)] [.row 9 1 1 ((sv L).map .imm)] [.row 0 2] [.row 9 1 2 ((sv (L.take i)).map .imm)] := by
  refine ⟨enters_of Try.func28 rfl rfl, rfl, fun Γ k w vs hΓ hI hT => ?_⟩
  unfold RepT at hT
  obtain ⟨v, r1, rfl, hv, hT⟩ := hT
  unfold RepT at hT
  obtain ⟨v1, r2, rfl, h1, hT⟩ := hT
  unfold RepT at hT
  obtain ⟨v2, r3, rfl, h2, hT⟩ := hT
  unfold RepT at hT
  subst hT
  rw [Rep_imm] at h1 h2
  unfold RepI at h1 h2
  subst h1
  subst h2
  have hb : [Blk.row 9 1 1 ((sv L).map .imm)][0]? = some (.row 9 1 1 ((sv L).map .imm)) := rfl
  obtain ⟨xs, ev, hown, hE, hG⟩ := ref_row (s := ⟨[], [Blk.row 9 1 1 ((sv L).map .imm)]⟩) hI hv hb
  obtain rfl := repE_strs hE
  rw [sv_len] at hown
  -- what the world must be afterwards
  have fin : ∀ (w' : World) (v' : Value), Below Γ.N w w' → (∀ b, b < w.heap.size → some b ≠ base (k.ρ 0) → w'.heap[b]? = w.heap[b]?) → (∀ b, base v' = some b → base (k.ρ 0) = some b ∧ b < w'.heap.size) → one v' → w'.ownsRow Γ.N 9 1 v' (L.take i).length ((L.take i).map .string) →
      ∃ u k', Ending.returned v' = .returned u ∧ Ext k 1 w k' 1 w' ∧ Inv Γ k' [.row 9 1 2 ((sv (L.take i)).map .imm)] w' ∧ Rep k' 1 w' (resQ [.row 0 2]) u := by
    intro w' v' hbel hoth hnew hone hrow
    obtain ⟨q1, q2⟩ := inv_put (v := v') (g := 2) (y := .row 9 1 2 ((sv (L.take i)).map .imm)) (w' := w') hI hb (Or.inl (by rw [hG]; decide)) hbel hoth (fun b hb' => by
      obtain ⟨h3, h4⟩ := hnew b hb'
      exact ⟨Or.inr h3, h4⟩) (fun _ => ⟨K.put_G _ _ _ _, (L.take i).map .string, by rw [K.put_ρ, sv_len]; exact hrow, strs_repE⟩)
    refine ⟨v', _, rfl, q1, q2, ?_⟩
    show Rep _ _ _ (.row 0 2) v'
    unfold Rep
    exact ⟨hone, by decide, Nat.le_of_eq (K.put_G _ _ _ _).symm, fun _ => (K.put_ρ _ _ _ _).symm⟩
  by_cases hL : L.length = 0
  · have hi0 : i = 0 := by omega
    subst hi0
    obtain ⟨ad, c, hf⟩ := own_form hown
    rw [hL, ← ev] at hf
    rw [hL]
    subst hf
    refine (Try.slices_Delete_string_empty ad c w).mono ?_
    rintro e w' ⟨rfl, rfl⟩
    refine fin w' _ (Below.refl _ _) (fun _ _ _ => rfl) (fun b hb' => ⟨by rw [← ev]; exact hb', ?_⟩) rfl ?_
    · exact (hI.sep 0 _ b hb (by show base (k.ρ 0) = some b; rw [← ev]; exact hb')).2.2
    · have hnil : L = [] := List.length_eq_zero_iff.1 hL
      subst hnil
      simpa [ev] using hown
  · obtain ⟨b, cap, cur, xs, e1, e2, e3, e4, e5, e6, e7, e8, _, _⟩ := row_open (s := ⟨[], [Blk.row 9 1 1 ((sv L).map .imm)]⟩) hI hb (by rw [sv_len]; omega)
    rw [sv_len] at e1 e4 e7 e8
    rw [Nat.mul_one] at e6 e7 e8
    have hxs : L.map Value.string = xs := by
      obtain ⟨h5, h6⟩ := hown
      rcases h6 with ⟨_, h7⟩ | ⟨g, cap', cur', h7, h8, h9, h10, h11, h12, h13⟩
      · omega
      · rw [e1] at h7
        simp only [Value.slice.injEq, Option.some.injEq, Addr.mk.injEq] at h7
        obtain ⟨⟨rfl, _⟩, _, rfl⟩ := h7
        rw [e3] at h9
        simp only [Option.some.injEq, Obj.cells.injEq] at h9
        obtain ⟨rfl, _⟩ := h9
        rw [Nat.mul_one] at h13
        rw [← h13, ← e7]
    have hcell : ∀ j, j < L.length → w.cell? ⟨b, 0 + j, none⟩ = some (.string (L.getD j ByteArray.empty)) := by
      intro j hj
      rw [World.cell?, e3, Nat.zero_add]
      have : cur.toList[j]? = some (.string (L.getD j ByteArray.empty)) := by
        have h5 : (cur.toList.take L.length)[j]? = some (.string (L.getD j ByteArray.empty)) := by
          rw [e7, ← hxs, List.getElem?_map, List.getElem?_eq_getElem hj]
          simp [List.getD, List.getElem?_eq_getElem hj]
        rw [List.getElem?_take, if_pos hj] at h5
        exact h5
      simpa using this
    have hfro : ∀ j, j < L.length → w.frozen? ⟨b, 0 + j, none⟩ = false := by
      intro j _
      simp [World.frozen?, e3]
    rw [ev, e1]
    refine (Try.slices_Delete_string_cells b 0 L.length cap i L.length (fun j => L.getD j ByteArray.empty) w e4 (by unfold maxLen at e5; omega) hi (Nat.le_refl _) hcell hfro).mono ?_
    rintro e w' ⟨rfl, q, rfl⟩
    generalize hvs : (((Lib.strsOf (fun j => L.getD j ByteArray.empty) L.length).take i ++ (Lib.strsOf (fun j => L.getD j ByteArray.empty) L.length).drop L.length ++ List.replicate (L.length - i) []).map encStr) = vs
    have hlv : vs.length = L.length := by
      rw [← hvs]
      simp [Lib.strsOf_length]
      omega
    have hh : (w.drewN q).heap = w.heap := by simp
    have hlt : b < w.heap.size := (Array.getElem?_eq_some_iff.1 e3).1
    obtain ⟨c', g1, g2⟩ := setCells_blk (b := b) (ty := 9) (m := (0, 0)) vs 0 (w.drewN q) cur (by rw [hh]; exact e3)
    have hin : ∀ j (hj : j < vs.length), c'.toList[j]? = some vs[j] := by
      intro j hj
      have h5 := World.cell?_setCells_in b vs 0 (w.drewN q) (fun j hj => by
        have := hcell j (by omega)
        simp only [World.cell?] at this ⊢
        rw [hh, this]; rfl) j hj
      rw [World.cell?, g1, Nat.zero_add] at h5
      simpa using h5
    have htake : c'.toList.take i = (L.take i).map Value.string := by
      apply List.ext_getElem?
      intro j
      rw [List.getElem?_take]
      by_cases hj : j < i
      · rw [if_pos hj]
        have hjl : j < vs.length := by omega
        rw [hin j hjl, List.getElem?_map, List.getElem?_take, if_pos hj, List.getElem?_eq_getElem (by omega)]
        simp only [Option.map_some, Option.some.injEq]
        subst hvs
        rw [List.getElem_map, List.getElem_append_left (by simp [Lib.strsOf_length]; omega), List.getElem_append_left (by simp [Lib.strsOf_length]; omega)]
        have hjL : j < L.length := by omega
        simp [Lib.strsOf, encStr, List.getElem?_eq_getElem hjL]
      · rw [if_neg hj, List.getElem?_map, List.getElem?_take, if_neg hj]
        rfl
    have hno : base (Value.slice (some ⟨b, 0, none⟩) (L.length - (L.length - i)) cap) = base (k.ρ 0) := by rw [e1]; rfl
    have hli : L.length - (L.length - i) = (L.take i).length := by simp; omega
    refine fin _ _ ?_ (fun y hy hne => ?_) (fun y hy => ?_) rfl ?_
    · exact belowCells e2 vs 0 (belowDrew q (Below.refl Γ.N w))
    · rw [setCells_other b (fun e => hne (by rw [e1, e]; rfl)) vs 0, hh]
    · rw [hno] at hy
      refine ⟨hy, ?_⟩
      rw [e1] at hy
      simp only [base, Option.some.injEq] at hy
      subst hy
      rw [setCells_size]
      simpa using hlt
    · refine ⟨?_, Or.inr ⟨b, cap, c', by rw [hli], e2, g1, by simp; omega, e5, by rw [g2, e6]; simp, ?_⟩⟩
      · simp
      · rw [Nat.mul_one, ← htake]
        simp
        omega
/-- slices.Clone of a row: a row of the caller's own, of the same strings. -/
theorem clone_pcb (L : List ByteArray) (hL : L.length ≤ 100000000) : PCB Try.prog envU 33 [.row 0 1] [.row 9 1 1 ((sv L).map .imm), .dead 1] [.row 1 2] [.row 9 1 1 ((sv L).map .imm), .row 9 1 2 ((sv L).map .imm)] := by
  refine ⟨enters_of Try.func33 rfl rfl, rfl, fun Γ k w vs hΓ hI hT => ?_⟩
  unfold RepT at hT
  obtain ⟨v, r1, rfl, hv, hT⟩ := hT
  unfold RepT at hT
  subst hT
  generalize hB : [Blk.row 9 1 1 ((sv L).map .imm), .dead 1] = B at hI hv
  have hb : B[0]? = some (.row 9 1 1 ((sv L).map .imm)) := by rw [← hB]; rfl
  have hd : B[1]? = some (.dead 1) := by rw [← hB]; rfl
  have hBl : B.length = 2 := by rw [← hB]; rfl
  obtain ⟨xs, ev, hown, hE, hG⟩ := ref_row (s := ⟨[], B⟩) hI hv hb
  obtain rfl := repE_strs hE
  rw [sv_len] at hown
  have hG1 : k.G 1 = 1 := hI.blk 1 _ hd
  have fin : ∀ (w' : World) (v' : Value), Below w.heap.size w w' → one v' → w'.ownsRow w.heap.size 9 1 v' L.length (L.map .string) →
      ∃ u k', Ending.returned v' = .returned u ∧ Ext k 2 w k' 2 w' ∧ Inv Γ k' [.row 9 1 1 ((sv L).map .imm), .row 9 1 2 ((sv L).map .imm)] w' ∧ Rep k' 2 w' (resQ [.row 1 2]) u := by
    intro w' v' hbel hone hrow
    obtain ⟨q1, q2⟩ := inv_put (v := v') (g := 2) (y := .row 9 1 2 ((sv L).map .imm)) (w' := w') hI hd (Or.inl (by rw [hG1]; decide)) (hbel.mono hI.le) (fun b hb' _ => hbel.block b hb') (fun b hb' => by
      rcases hrow.2 with ⟨h1, _⟩ | ⟨g, cap, cur, h1, h2, h3, _⟩
      · rw [h1] at hb'; cases hb'
      · rw [h1] at hb'
        simp only [base, Option.some.injEq] at hb'
        subst hb'
        exact ⟨Or.inl h2, (Array.getElem?_eq_some_iff.1 h3).1⟩) (fun _ => ⟨K.put_G _ _ _ _, L.map .string, by rw [K.put_ρ, sv_len]; exact ownsRow_base hrow hI.le, strs_repE⟩)
    rw [hBl] at q1
    refine ⟨v', _, rfl, q1, by rw [← hB] at q2; exact q2, ?_⟩
    show Rep _ _ _ (.row 1 2) v'
    unfold Rep
    exact ⟨hone, by decide, Nat.le_of_eq (K.put_G _ _ _ _).symm, fun _ => (K.put_ρ _ _ _ _).symm⟩
  have hone : ∀ (w' : World) (v' : Value) (n : Nat) (xs : List Value), w'.ownsRow w.heap.size 9 1 v' n xs → one v' := by
    intro w' v' n xs h
    obtain ⟨ad, c, e⟩ := own_form h
    rw [e]; rfl
  rw [hBl]
  show Calls Try.prog 33 #[v] w _
  by_cases hl : L.length = 0
  · have hnil : L = [] := List.length_eq_zero_iff.1 hl
    obtain ⟨ad, c, hf⟩ := own_form hown
    rw [hl, ← ev] at hf
    subst hf
    cases ad with
    | none =>
      refine (Try.slices_Clone_string_nil 0 c w).mono ?_
      rintro e w' ⟨rfl, rfl⟩
      exact fin w' _ (Below.refl _ _) rfl (by subst hnil; exact World.ownsRow_nil _ _ _ _)
    | some a =>
      refine (Try.slices_Clone_string_zero a c w).mono ?_
      rintro e w' ⟨v', rfl, h1, _, h2⟩
      exact fin w' _ h2 (hone _ _ _ _ h1) (by subst hnil; exact h1)
  · obtain ⟨b, cap, cur, xs, e1, e2, e3, e4, e5, e6, e7, e8, _, _⟩ := row_open (s := ⟨[], B⟩) hI hb (by rw [sv_len]; omega)
    rw [sv_len] at e1 e4 e7 e8
    rw [Nat.mul_one] at e6 e7 e8
    have hxs : L.map Value.string = xs := by
      obtain ⟨h5, h6⟩ := hown
      rcases h6 with ⟨_, h7⟩ | ⟨g, cap', cur', h7, h8, h9, h10, h11, h12, h13⟩
      · omega
      · rw [e1] at h7
        simp only [Value.slice.injEq, Option.some.injEq, Addr.mk.injEq] at h7
        obtain ⟨⟨rfl, _⟩, _, rfl⟩ := h7
        rw [e3] at h9
        simp only [Option.some.injEq, Obj.cells.injEq] at h9
        obtain ⟨rfl, _⟩ := h9
        rw [Nat.mul_one] at h13
        rw [← h13, ← e7]
    have hcell : ∀ j, j < L.length → w.cell? ⟨b, 0 + j, none⟩ = some (.string (L.getD j ByteArray.empty)) := by
      intro j hj
      rw [World.cell?, e3, Nat.zero_add]
      have : cur.toList[j]? = some (.string (L.getD j ByteArray.empty)) := by
        have h5 : (cur.toList.take L.length)[j]? = some (.string (L.getD j ByteArray.empty)) := by
          rw [e7, ← hxs, List.getElem?_map, List.getElem?_eq_getElem hj]
          simp [List.getD, List.getElem?_eq_getElem hj]
        rw [List.getElem?_take, if_pos hj] at h5
        exact h5
      simpa using this
    rw [ev, e1]
    refine (Try.slices_Clone_string b 0 L.length cap L w (Nat.le_refl _) (by omega) hcell).mono ?_
    rintro e w' ⟨v', rfl, h1, _, h2⟩
    rw [List.take_length] at h1
    exact fin w' _ h2 (hone _ _ _ _ h1) h1
end Go.Proofs.Ytmaapgbplbhlfaa.Pu

namespace Go.Proofs.Ytmaapgbplbhlfaa.Pu
open Go Go.Pv
set_option linter.unusedSimpArgs false

set_option maxRecDepth 10000
set_option maxHeartbeats 4000000
theorem new_pcb : PCB Try.prog envU 10 [] [.dead 1] [.ptr 0 2 0] [.box 2 [.imm .nil, .imm (.int .i64 0), .imm (.int .i64 (-1)), .imm (.int .i64 (-1)), .imm (.bool false)]] := by
  refine PCB.of_vc (T := tb0) eqs_ok tb_ok rfl mixed Try.func10 rfl rfl rfl ?_; intro Γ C WK LP fin h0 hk0 hW hC hB hR hLP hfin
  (repeat ((conv => whnf); first | (with_reducible refine Fork.mk (fun hq => ?_) (fun hc => ?_)); rotate_left; (exfalso; first | omega | (simp [eqC, cellsI, idv, idl] at hc; done) | (simp [eqC, cellsI, idv, idl] at hc; omega) | contradiction); (try clear hq) | (with_reducible refine Fork.mk (fun hc => ?_) (fun hq => ?_)); (exfalso; first | omega | (simp [eqC, cellsI, idv, idl] at hc; done) | (simp [eqC, cellsI, idv, idl] at hc; omega) | contradiction); (try clear hq) | (with_reducible refine Owe.mk ?_ ?_); (first | omega | (unfold most; omega) | decide +kernel | assumption | (simp [most]; done) | (simp [most]; omega)) | (with_reducible intro z hz); first | (replace hz := hz (by omega); subst hz) | subst hz)); try (conv => whnf)
  exact hfin _ (Weak.trans (Weak.adopt 0 1 2 (by decide) rfl rfl (by rw [h0]; exact Nat.le_of_ble_eq_true rfl) (by first | omega | (intro _; rw [hk0 _ _ rfl]; exact Nat.le_of_ble_eq_true rfl)) (by repeat (first | exact trivial | refine And.intro (mvL_imms _ _ _ _ _) ?_ | refine And.intro rfl ?_))) (Weak.slots 1 (by first | omega | (rw [h0]; exact Nat.le_of_ble_eq_true rfl)) rfl rfl (by first | rfl | (simp only [List.all_cons, List.all_nil, blkBelow, belowL_imm, belowL, belowB, Bool.and_true, Bool.true_and]; first | done | decide) | simp [blkBelow, belowB, belowL, belowL_imm]) (by repeat (first | exact Wk.nil | refine Wk.drop16 ?_ | refine Wk.drop4 ?_ | refine Wk.drop ?_ | refine Wk.eq (by with_reducible rfl) rfl ?_ | refine Wk.eq (congrArg (fun z => PV.imm (IV.int IntKind.i64 z)) (by first | omega | (simp; done) | (simp; omega))) rfl ?_ | refine Wk.eq rfl rfl ?_))))
theorem rnew_pcb : PCB Try.prog envU 11 [] [.dead 1] [.ptr 0 2 0] [.box 2 [.imm .nil, .imm (.int .i64 0), .imm (.int .i64 (-1)), .imm (.int .i64 (-1)), .imm (.bool false)]] := by
  refine PCB.of_vc (T := tb0) eqs_ok tb_ok rfl mixed Try.func11 rfl rfl rfl ?_; intro Γ C WK LP fin h0 hk0 hW hC hB hR hLP hfin
  (repeat ((conv => whnf); first | (with_reducible refine Fork.mk (fun hq => ?_) (fun hc => ?_)); rotate_left; (exfalso; first | omega | (simp [eqC, cellsI, idv, idl] at hc; done) | (simp [eqC, cellsI, idv, idl] at hc; omega) | contradiction); (try clear hq) | (with_reducible refine Fork.mk (fun hc => ?_) (fun hq => ?_)); (exfalso; first | omega | (simp [eqC, cellsI, idv, idl] at hc; done) | (simp [eqC, cellsI, idv, idl] at hc; omega) | contradiction); (try clear hq) | (with_reducible refine Owe.mk ?_ ?_); (first | omega | (unfold most; omega) | decide +kernel | assumption | (simp [most]; done) | (simp [most]; omega)) | (with_reducible intro z hz); first | (replace hz := hz (by omega); subst hz) | subst hz)); try (conv => whnf)
  exact hfin _ (Weak.trans (Weak.adopt 0 1 2 (by decide) rfl rfl (by rw [h0]; exact Nat.le_of_ble_eq_true rfl) (by first | omega | (intro _; rw [hk0 _ _ rfl]; exact Nat.le_of_ble_eq_true rfl)) (by repeat (first | exact trivial | refine And.intro (mvL_imms _ _ _ _ _) ?_ | refine And.intro rfl ?_))) (Weak.slots 1 (by first | omega | (rw [h0]; exact Nat.le_of_ble_eq_true rfl)) rfl rfl (by first | rfl | (simp only [List.all_cons, List.all_nil, blkBelow, belowL_imm, belowL, belowB, Bool.and_true, Bool.true_and]; first | done | decide) | simp [blkBelow, belowB, belowL, belowL_imm]) (by repeat (first | exact Wk.nil | refine Wk.drop16 ?_ | refine Wk.drop4 ?_ | refine Wk.drop ?_ | refine Wk.eq (by with_reducible rfl) rfl ?_ | refine Wk.eq (congrArg (fun z => PV.imm (IV.int IntKind.i64 z)) (by first | omega | (simp; done) | (simp; omega))) rfl ?_ | refine Wk.eq rfl rfl ?_))))
theorem len_pcb (s : Sto) : PCB Try.prog envU 16 [.ptr 0 1 0] [.box 1 [.row 1 1, .imm (.int .i64 s.d), .imm (.int .i64 s.r), .imm (.int .i64 s.c), .imm (.bool s.off)], .row 9 1 1 ((sv s.L).map .imm)] [.imm (.int .i64 (s.L.length : Nat))] [.box 1 [.row 1 1, .imm (.int .i64 s.d), .imm (.int .i64 s.r), .imm (.int .i64 s.c), .imm (.bool s.off)], .row 9 1 1 ((sv s.L).map .imm)] := by
  have hl := sv_len s.L
  refine PCB.of_vc (T := tb0) eqs_ok tb_ok rfl mixed Try.func16 rfl rfl rfl ?_; intro Γ C WK LP fin h0 hk0 hW hC hB hR hLP hfin
  (repeat ((conv => whnf); first | (with_reducible refine Fork.mk (fun hq => ?_) (fun hc => ?_)); rotate_left; (exfalso; first | omega | (simp [eqC, cellsI, idv, idl] at hc; done) | (simp [eqC, cellsI, idv, idl] at hc; omega) | contradiction); (try clear hq) | (with_reducible refine Fork.mk (fun hc => ?_) (fun hq => ?_)); (exfalso; first | omega | (simp [eqC, cellsI, idv, idl] at hc; done) | (simp [eqC, cellsI, idv, idl] at hc; omega) | contradiction); (try clear hq) | (with_reducible refine Owe.mk ?_ ?_); (first | omega | (unfold most; omega) | decide +kernel | assumption | (simp [most]; done) | (simp [most]; omega)) | (with_reducible intro z hz); first | (replace hz := hz (by omega); subst hz) | subst hz)); try (conv => whnf)
  rw [hl]
  exact hfin _ (Weak.slots 2 (by first | omega | (rw [h0]; exact Nat.le_of_ble_eq_true rfl)) rfl rfl (by first | rfl | (simp only [List.all_cons, List.all_nil, blkBelow, belowL_imm, belowL, belowB, Bool.and_true, Bool.true_and]; first | done | decide) | simp [blkBelow, belowB, belowL, belowL_imm]) (by repeat (first | exact Wk.nil | refine Wk.drop16 ?_ | refine Wk.drop4 ?_ | refine Wk.drop ?_ | refine Wk.eq (by with_reducible rfl) rfl ?_ | refine Wk.eq (congrArg (fun z => PV.imm (IV.int IntKind.i64 z)) (by first | omega | (simp; done) | (simp; omega))) rfl ?_ | refine Wk.eq rfl rfl ?_)))
theorem root_pcb (s : Sto) : PCB Try.prog envU 15 [.ptr 0 1 0] [.box 1 [.row 1 1, .imm (.int .i64 s.d), .imm (.int .i64 s.r), .imm (.int .i64 s.c), .imm (.bool s.off)], .row 9 1 1 ((sv s.L).map .imm)] [.imm (.int .i64 s.r)] [.box 1 [.row 1 1, .imm (.int .i64 s.d), .imm (.int .i64 s.r), .imm (.int .i64 s.c), .imm (.bool s.off)], .row 9 1 1 ((sv s.L).map .imm)] := by
  refine PCB.of_vc (T := tb0) eqs_ok tb_ok rfl mixed Try.func15 rfl rfl rfl ?_; intro Γ C WK LP fin h0 hk0 hW hC hB hR hLP hfin
  (repeat ((conv => whnf); first | (with_reducible refine Fork.mk (fun hq => ?_) (fun hc => ?_)); rotate_left; (exfalso; first | omega | (simp [eqC, cellsI, idv, idl] at hc; done) | (simp [eqC, cellsI, idv, idl] at hc; omega) | contradiction); (try clear hq) | (with_reducible refine Fork.mk (fun hc => ?_) (fun hq => ?_)); (exfalso; first | omega | (simp [eqC, cellsI, idv, idl] at hc; done) | (simp [eqC, cellsI, idv, idl] at hc; omega) | contradiction); (try clear hq) | (with_reducible refine Owe.mk ?_ ?_); (first | omega | (unfold most; omega) | decide +kernel | assumption | (simp [most]; done) | (simp [most]; omega)) | (with_reducible intro z hz); first | (replace hz := hz (by omega); subst hz) | subst hz)); try (conv => whnf)
  exact hfin _ (Weak.slots 2 (by first | omega | (rw [h0]; exact Nat.le_of_ble_eq_true rfl)) rfl rfl (by first | rfl | (simp only [List.all_cons, List.all_nil, blkBelow, belowL_imm, belowL, belowB, Bool.and_true, Bool.true_and]; first | done | decide) | simp [blkBelow, belowB, belowL, belowL_imm]) (by repeat (first | exact Wk.nil | refine Wk.drop16 ?_ | refine Wk.drop4 ?_ | refine Wk.drop ?_ | refine Wk.eq (by with_reducible rfl) rfl ?_ | refine Wk.eq (congrArg (fun z => PV.imm (IV.int IntKind.i64 z)) (by first | omega | (simp; done) | (simp; omega))) rfl ?_ | refine Wk.eq rfl rfl ?_)))
theorem failed_pcb (s : Sto) : PCB Try.prog envU 21 [.ptr 0 1 0] [.box 1 [.row 1 1, .imm (.int .i64 s.d), .imm (.int .i64 s.r), .imm (.int .i64 s.c), .imm (.bool s.off)], .row 9 1 1 ((sv s.L).map .imm)] [.imm (.bool s.off)] [.box 1 [.row 1 1, .imm (.int .i64 s.d), .imm (.int .i64 s.r), .imm (.int .i64 s.c), .imm (.bool s.off)], .row 9 1 1 ((sv s.L).map .imm)] := by
  refine PCB.of_vc (T := tb0) eqs_ok tb_ok rfl mixed Try.func21 rfl rfl rfl ?_; intro Γ C WK LP fin h0 hk0 hW hC hB hR hLP hfin
  (repeat ((conv => whnf); first | (with_reducible refine Fork.mk (fun hq => ?_) (fun hc => ?_)); rotate_left; (exfalso; first | omega | (simp [eqC, cellsI, idv, idl] at hc; done) | (simp [eqC, cellsI, idv, idl] at hc; omega) | contradiction); (try clear hq) | (with_reducible refine Fork.mk (fun hc => ?_) (fun hq => ?_)); (exfalso; first | omega | (simp [eqC, cellsI, idv, idl] at hc; done) | (simp [eqC, cellsI, idv, idl] at hc; omega) | contradiction); (try clear hq) | (with_reducible refine Owe.mk ?_ ?_); (first | omega | (unfold most; omega) | decide +kernel | assumption | (simp [most]; done) | (simp [most]; omega)) | (with_reducible intro z hz); first | (replace hz := hz (by omega); subst hz) | subst hz)); try (conv => whnf)
  exact hfin _ (Weak.slots 2 (by first | omega | (rw [h0]; exact Nat.le_of_ble_eq_true rfl)) rfl rfl (by first | rfl | (simp only [List.all_cons, List.all_nil, blkBelow, belowL_imm, belowL, belowB, Bool.and_true, Bool.true_and]; first | done | decide) | simp [blkBelow, belowB, belowL, belowL_imm]) (by repeat (first | exact Wk.nil | refine Wk.drop16 ?_ | refine Wk.drop4 ?_ | refine Wk.drop ?_ | refine Wk.eq (by with_reducible rfl) rfl ?_ | refine Wk.eq (congrArg (fun z => PV.imm (IV.int IntKind.i64 z)) (by first | omega | (simp; done) | (simp; omega))) rfl ?_ | refine Wk.eq rfl rfl ?_)))
theorem failafter_pcb (s : Sto) (n : Int) : PCB Try.prog envU 18 [.ptr 0 1 0, .imm (.int .i64 n)] [.box 1 [.row 1 1, .imm (.int .i64 s.d), .imm (.int .i64 s.r), .imm (.int .i64 s.c), .imm (.bool s.off)], .row 9 1 1 ((sv s.L).map .imm)] [] [.box 1 [.row 1 1, .imm (.int .i64 s.d), .imm (.int .i64 s.r), .imm (.int .i64 n), .imm (.bool s.off)], .row 9 1 1 ((sv s.L).map .imm)] := by
  refine PCB.of_vc (T := tb0) eqs_ok tb_ok rfl mixed Try.func18 rfl rfl rfl ?_; intro Γ C WK LP fin h0 hk0 hW hC hB hR hLP hfin
  (repeat ((conv => whnf); first | (with_reducible refine Fork.mk (fun hq => ?_) (fun hc => ?_)); rotate_left; (exfalso; first | omega | (simp [eqC, cellsI, idv, idl] at hc; done) | (simp [eqC, cellsI, idv, idl] at hc; omega) | contradiction); (try clear hq) | (with_reducible refine Fork.mk (fun hc => ?_) (fun hq => ?_)); (exfalso; first | omega | (simp [eqC, cellsI, idv, idl] at hc; done) | (simp [eqC, cellsI, idv, idl] at hc; omega) | contradiction); (try clear hq) | (with_reducible refine Owe.mk ?_ ?_); (first | omega | (unfold most; omega) | decide +kernel | assumption | (simp [most]; done) | (simp [most]; omega)) | (with_reducible intro z hz); first | (replace hz := hz (by omega); subst hz) | subst hz)); try (conv => whnf)
  exact hfin _ (Weak.slots 2 (by first | omega | (rw [h0]; exact Nat.le_of_ble_eq_true rfl)) rfl rfl (by first | rfl | (simp only [List.all_cons, List.all_nil, blkBelow, belowL_imm, belowL, belowB, Bool.and_true, Bool.true_and]; first | done | decide) | simp [blkBelow, belowB, belowL, belowL_imm]) (by repeat (first | exact Wk.nil | refine Wk.drop16 ?_ | refine Wk.drop4 ?_ | refine Wk.drop ?_ | refine Wk.eq (by with_reducible rfl) rfl ?_ | refine Wk.eq (congrArg (fun z => PV.imm (IV.int IntKind.i64 z)) (by first | omega | (simp; done) | (simp; omega))) rfl ?_ | refine Wk.eq rfl rfl ?_)))
theorem perr_pcb (s : Sto) (p : Int) : PCB Try.prog envU 29 [.ptr 0 1 0, .imm (.int .i64 p)] [.box 1 [.row 1 1, .imm (.int .i64 s.d), .imm (.int .i64 s.r), .imm (.int .i64 s.c), .imm (.bool s.off)], .row 9 1 1 ((sv s.L).map .imm)] [.imm (.int .i64 (perr s p))] [.box 1 [.row 1 1, .imm (.int .i64 s.d), .imm (.int .i64 s.r), .imm (.int .i64 s.c), .imm (.bool s.off)], .row 9 1 1 ((sv s.L).map .imm)] := by
  have hl := sv_len s.L
  cases ho : s.off with
  | true =>
    rw [show perr s p = 16 by simp [perr, ho]]
    refine PCB.of_vc (T := tb0) eqs_ok tb_ok rfl mixed Try.func29 rfl rfl rfl ?_; intro Γ C WK LP fin h0 hk0 hW hC hB hR hLP hfin
    (repeat ((conv => whnf); first | (with_reducible refine Fork.mk (fun hq => ?_) (fun hc => ?_)); rotate_left; (exfalso; first | omega | (simp [eqC, cellsI, idv, idl] at hc; done) | (simp [eqC, cellsI, idv, idl] at hc; omega) | contradiction); (try clear hq) | (with_reducible refine Fork.mk (fun hc => ?_) (fun hq => ?_)); (exfalso; first | omega | (simp [eqC, cellsI, idv, idl] at hc; done) | (simp [eqC, cellsI, idv, idl] at hc; omega) | contradiction); (try clear hq) | (with_reducible refine Owe.mk ?_ ?_); (first | omega | (unfold most; omega) | decide +kernel | assumption | (simp [most]; done) | (simp [most]; omega)) | (with_reducible intro z hz); first | (replace hz := hz (by omega); subst hz) | subst hz)); try (conv => whnf)
    exact hfin _ (Weak.slots 2 (by first | omega | (rw [h0]; exact Nat.le_of_ble_eq_true rfl)) rfl rfl (by first | rfl | (simp only [List.all_cons, List.all_nil, blkBelow, belowL_imm, belowL, belowB, Bool.and_true, Bool.true_and]; first | done | decide) | simp [blkBelow, belowB, belowL, belowL_imm]) (by repeat (first | exact Wk.nil | refine Wk.drop16 ?_ | refine Wk.drop4 ?_ | refine Wk.drop ?_ | refine Wk.eq (by with_reducible rfl) rfl ?_ | refine Wk.eq (congrArg (fun z => PV.imm (IV.int IntKind.i64 z)) (by first | omega | (simp; done) | (simp; omega))) rfl ?_ | refine Wk.eq rfl rfl ?_)))
  | false =>
    by_cases h1 : p < 0
    · rw [show perr s p = 3 by simp [perr, h1, ho]]
      refine PCB.of_vc (T := tb0) eqs_ok tb_ok rfl mixed Try.func29 rfl rfl rfl ?_; intro Γ C WK LP fin h0 hk0 hW hC hB hR hLP hfin
      (repeat ((conv => whnf); first | (with_reducible refine Fork.mk (fun hq => ?_) (fun hc => ?_)); rotate_left; (exfalso; first | omega | (simp [eqC, cellsI, idv, idl] at hc; done) | (simp [eqC, cellsI, idv, idl] at hc; omega) | contradiction); (try clear hq) | (with_reducible refine Fork.mk (fun hc => ?_) (fun hq => ?_)); (exfalso; first | omega | (simp [eqC, cellsI, idv, idl] at hc; done) | (simp [eqC, cellsI, idv, idl] at hc; omega) | contradiction); (try clear hq) | (with_reducible refine Owe.mk ?_ ?_); (first | omega | (unfold most; omega) | decide +kernel | assumption | (simp [most]; done) | (simp [most]; omega)) | (with_reducible intro z hz); first | (replace hz := hz (by omega); subst hz) | subst hz)); try (conv => whnf)
      exact hfin _ (Weak.slots 2 (by first | omega | (rw [h0]; exact Nat.le_of_ble_eq_true rfl)) rfl rfl (by first | rfl | (simp only [List.all_cons, List.all_nil, blkBelow, belowL_imm, belowL, belowB, Bool.and_true, Bool.true_and]; first | done | decide) | simp [blkBelow, belowB, belowL, belowL_imm]) (by repeat (first | exact Wk.nil | refine Wk.drop16 ?_ | refine Wk.drop4 ?_ | refine Wk.drop ?_ | refine Wk.eq (by with_reducible rfl) rfl ?_ | refine Wk.eq (congrArg (fun z => PV.imm (IV.int IntKind.i64 z)) (by first | omega | (simp; done) | (simp; omega))) rfl ?_ | refine Wk.eq rfl rfl ?_)))
    · by_cases h2 : (s.L.length : Int) ≤ p
      · rw [show perr s p = 3 by simp [perr, h2, ho]]
        refine PCB.of_vc (T := tb0) eqs_ok tb_ok rfl mixed Try.func29 rfl rfl rfl ?_; intro Γ C WK LP fin h0 hk0 hW hC hB hR hLP hfin
        (repeat ((conv => whnf); first | (with_reducible refine Fork.mk (fun hq => ?_) (fun hc => ?_)); rotate_left; (exfalso; first | omega | (simp [eqC, cellsI, idv, idl] at hc; done) | (simp [eqC, cellsI, idv, idl] at hc; omega) | contradiction); (try clear hq) | (with_reducible refine Fork.mk (fun hc => ?_) (fun hq => ?_)); (exfalso; first | omega | (simp [eqC, cellsI, idv, idl] at hc; done) | (simp [eqC, cellsI, idv, idl] at hc; omega) | contradiction); (try clear hq) | (with_reducible refine Owe.mk ?_ ?_); (first | omega | (unfold most; omega) | decide +kernel | assumption | (simp [most]; done) | (simp [most]; omega)) | (with_reducible intro z hz); first | (replace hz := hz (by omega); subst hz) | subst hz)); try (conv => whnf)
        exact hfin _ (Weak.slots 2 (by first | omega | (rw [h0]; exact Nat.le_of_ble_eq_true rfl)) rfl rfl (by first | rfl | (simp only [List.all_cons, List.all_nil, blkBelow, belowL_imm, belowL, belowB, Bool.and_true, Bool.true_and]; first | done | decide) | simp [blkBelow, belowB, belowL, belowL_imm]) (by repeat (first | exact Wk.nil | refine Wk.drop16 ?_ | refine Wk.drop4 ?_ | refine Wk.drop ?_ | refine Wk.eq (by with_reducible rfl) rfl ?_ | refine Wk.eq (congrArg (fun z => PV.imm (IV.int IntKind.i64 z)) (by first | omega | (simp; done) | (simp; omega))) rfl ?_ | refine Wk.eq rfl rfl ?_)))
      · rw [show perr s p = 0 by simp [perr, h2, h1, ho]]
        refine PCB.of_vc (T := tb0) eqs_ok tb_ok rfl mixed Try.func29 rfl rfl rfl ?_; intro Γ C WK LP fin h0 hk0 hW hC hB hR hLP hfin
        (repeat ((conv => whnf); first | (with_reducible refine Fork.mk (fun hq => ?_) (fun hc => ?_)); rotate_left; (exfalso; first | omega | (simp [eqC, cellsI, idv, idl] at hc; done) | (simp [eqC, cellsI, idv, idl] at hc; omega) | contradiction); (try clear hq) | (with_reducible refine Fork.mk (fun hc => ?_) (fun hq => ?_)); (exfalso; first | omega | (simp [eqC, cellsI, idv, idl] at hc; done) | (simp [eqC, cellsI, idv, idl] at hc; omega) | contradiction); (try clear hq) | (with_reducible refine Owe.mk ?_ ?_); (first | omega | (unfold most; omega) | decide +kernel | assumption | (simp [most]; done) | (simp [most]; omega)) | (with_reducible intro z hz); first | (replace hz := hz (by omega); subst hz) | subst hz)); try (conv => whnf)
        exact hfin _ (Weak.slots 2 (by first | omega | (rw [h0]; exact Nat.le_of_ble_eq_true rfl)) rfl rfl (by first | rfl | (simp only [List.all_cons, List.all_nil, blkBelow, belowL_imm, belowL, belowB, Bool.and_true, Bool.true_and]; first | done | decide) | simp [blkBelow, belowB, belowL, belowL_imm]) (by repeat (first | exact Wk.nil | refine Wk.drop16 ?_ | refine Wk.drop4 ?_ | refine Wk.drop ?_ | refine Wk.eq (by with_reducible rfl) rfl ?_ | refine Wk.eq (congrArg (fun z => PV.imm (IV.int IntKind.i64 z)) (by first | omega | (simp; done) | (simp; omega))) rfl ?_ | refine Wk.eq rfl rfl ?_)))
theorem perr_cases (s : Sto) (p : Int) : (perr s p = 0 ∧ s.off = false ∧ 0 ≤ p ∧ p < s.L.length) ∨ (perr s p = 16 ∧ s.off = true) ∨ (perr s p = 3 ∧ s.off = false ∧ (p < 0 ∨ (s.L.length : Int) ≤ p)) := by
  unfold perr
  cases s.off
  · simp only [Bool.false_eq_true, if_false]
    split <;> simp <;> omega
  · simp
theorem sv_at {L : List ByteArray} {k : Nat} (h : k < L.length) : (sv L)[k]? = some (.str (L.getD k ⟨#[]⟩)) := by
  simp [sv, List.getD, List.getElem?_eq_getElem h]
theorem read_pcb (s : Sto) (p : Int) : PCB Try.prog envU 17 [.ptr 0 1 0, .imm (.int .i64 p)] [.box 1 [.row 1 1, .imm (.int .i64 s.d), .imm (.int .i64 s.r), .imm (.int .i64 s.c), .imm (.bool s.off)], .row 9 1 1 ((sv s.L).map .imm)] [.imm (.str (rd s p).1), .imm (.int .i64 (rd s p).2)] [.box 1 [.row 1 1, .imm (.int .i64 s.d), .imm (.int .i64 s.r), .imm (.int .i64 s.c), .imm (.bool s.off)], .row 9 1 1 ((sv s.L).map .imm)] := by
  have hl := sv_len s.L
  have hp := perr_pcb s p
  rcases perr_cases s p with ⟨h1, h2, h3, h4⟩ | ⟨h1, h2⟩ | ⟨h1, h2, h3⟩
  · have hat := sv_at (L := s.L) (k := p.toNat) (by omega)
    rw [show rd s p = (s.L.getD p.toNat ⟨#[]⟩, 0) by simp [rd, h1]]
    rw [h1] at hp
    refine PCB.of_vc (T := tb0) eqs_ok tb_ok rfl mixed Try.func17 rfl rfl rfl ?_; intro Γ C WK LP fin h0 hk0 hW hC hB hR hLP hfin
    (repeat ((conv => whnf); first | (with_reducible refine Fork.mk (fun hq => ?_) (fun hc => ?_)); rotate_left; (exfalso; first | omega | (simp [eqC, cellsI, idv, idl] at hc; done) | (simp [eqC, cellsI, idv, idl] at hc; omega) | contradiction); (try clear hq) | (with_reducible refine Fork.mk (fun hc => ?_) (fun hq => ?_)); (exfalso; first | omega | (simp [eqC, cellsI, idv, idl] at hc; done) | (simp [eqC, cellsI, idv, idl] at hc; omega) | contradiction); (try clear hq) | (with_reducible refine Owe.mk ?_ ?_); (first | omega | (unfold most; omega) | decide +kernel | assumption | (simp [most]; done) | (simp [most]; omega)) | (with_reducible intro z hz); first | (replace hz := hz (by omega); subst hz) | subst hz)); try (conv => whnf)
    refine Imms.mk (sv s.L) rfl ?_
    (repeat ((conv => whnf); first | (with_reducible refine Fork.mk (fun hq => ?_) (fun hc => ?_)); rotate_left; (exfalso; first | omega | (simp [eqC, cellsI, idv, idl] at hc; done) | (simp [eqC, cellsI, idv, idl] at hc; omega) | contradiction); (try clear hq) | (with_reducible refine Fork.mk (fun hc => ?_) (fun hq => ?_)); (exfalso; first | omega | (simp [eqC, cellsI, idv, idl] at hc; done) | (simp [eqC, cellsI, idv, idl] at hc; omega) | contradiction); (try clear hq) | (with_reducible refine Owe.mk ?_ ?_); (first | omega | (unfold most; omega) | decide +kernel | assumption | (simp [most]; done) | (simp [most]; omega)) | (with_reducible intro z hz); first | (replace hz := hz (by omega); subst hz) | subst hz)); try (conv => whnf)
    refine CallB.mk ([.imm (.int .i64 0)]) ([.box 1 [.row 1 1, .imm (.int .i64 s.d), .imm (.int .i64 s.r), .imm (.int .i64 s.c), .imm (.bool s.off)], .row 9 1 1 (sv s.L)]) (hB _ _ _ _ _ (hp)) ?_
    (repeat ((conv => whnf); first | (with_reducible refine Fork.mk (fun hq => ?_) (fun hc => ?_)); rotate_left; (exfalso; first | omega | (simp [eqC, cellsI, idv, idl] at hc; done) | (simp [eqC, cellsI, idv, idl] at hc; omega) | contradiction); (try clear hq) | (with_reducible refine Fork.mk (fun hc => ?_) (fun hq => ?_)); (exfalso; first | omega | (simp [eqC, cellsI, idv, idl] at hc; done) | (simp [eqC, cellsI, idv, idl] at hc; omega) | contradiction); (try clear hq) | (with_reducible refine Owe.mk ?_ ?_); (first | omega | (unfold most; omega) | decide +kernel | assumption | (simp [most]; done) | (simp [most]; omega)) | (with_reducible intro z hz); first | (replace hz := hz (by omega); subst hz) | subst hz)); try (conv => whnf)
    refine Pos.mk p.toNat (by omega) (by omega) ?_
    (repeat ((conv => whnf); first | (with_reducible refine Fork.mk (fun hq => ?_) (fun hc => ?_)); rotate_left; (exfalso; first | omega | (simp [eqC, cellsI, idv, idl] at hc; done) | (simp [eqC, cellsI, idv, idl] at hc; omega) | contradiction); (try clear hq) | (with_reducible refine Fork.mk (fun hc => ?_) (fun hq => ?_)); (exfalso; first | omega | (simp [eqC, cellsI, idv, idl] at hc; done) | (simp [eqC, cellsI, idv, idl] at hc; omega) | contradiction); (try clear hq) | (with_reducible refine Owe.mk ?_ ?_); (first | omega | (unfold most; omega) | decide +kernel | assumption | (simp [most]; done) | (simp [most]; omega)) | (with_reducible intro z hz); first | (replace hz := hz (by omega); subst hz) | subst hz)); try (conv => whnf)
    refine At.mk (.imm (.str (s.L.getD p.toNat ⟨#[]⟩))) (by rw [List.getElem?_map, hat]; rfl) ?_
    (repeat ((conv => whnf); first | (with_reducible refine Fork.mk (fun hq => ?_) (fun hc => ?_)); rotate_left; (exfalso; first | omega | (simp [eqC, cellsI, idv, idl] at hc; done) | (simp [eqC, cellsI, idv, idl] at hc; omega) | contradiction); (try clear hq) | (with_reducible refine Fork.mk (fun hc => ?_) (fun hq => ?_)); (exfalso; first | omega | (simp [eqC, cellsI, idv, idl] at hc; done) | (simp [eqC, cellsI, idv, idl] at hc; omega) | contradiction); (try clear hq) | (with_reducible refine Owe.mk ?_ ?_); (first | omega | (unfold most; omega) | decide +kernel | assumption | (simp [most]; done) | (simp [most]; omega)) | (with_reducible intro z hz); first | (replace hz := hz (by omega); subst hz) | subst hz)); try (conv => whnf)
    exact hfin _ (Weak.slots 2 (by first | omega | (rw [h0]; exact Nat.le_of_ble_eq_true rfl)) rfl rfl (by first | rfl | (simp only [List.all_cons, List.all_nil, blkBelow, belowL_imm, belowL, belowB, Bool.and_true, Bool.true_and]; first | done | decide) | simp [blkBelow, belowB, belowL, belowL_imm]) (by repeat (first | exact Wk.nil | refine Wk.drop16 ?_ | refine Wk.drop4 ?_ | refine Wk.drop ?_ | refine Wk.eq (by with_reducible rfl) rfl ?_ | refine Wk.eq (congrArg (fun z => PV.imm (IV.int IntKind.i64 z)) (by first | omega | (simp; done) | (simp; omega))) rfl ?_ | refine Wk.eq rfl rfl ?_)))
  · rw [show rd s p = (⟨#[]⟩, 16) by simp [rd, h1]]
    rw [h1] at hp
    refine PCB.of_vc (T := tb0) eqs_ok tb_ok rfl mixed Try.func17 rfl rfl rfl ?_; intro Γ C WK LP fin h0 hk0 hW hC hB hR hLP hfin
    (repeat ((conv => whnf); first | (with_reducible refine Fork.mk (fun hq => ?_) (fun hc => ?_)); rotate_left; (exfalso; first | omega | (simp [eqC, cellsI, idv, idl] at hc; done) | (simp [eqC, cellsI, idv, idl] at hc; omega) | contradiction); (try clear hq) | (with_reducible refine Fork.mk (fun hc => ?_) (fun hq => ?_)); (exfalso; first | omega | (simp [eqC, cellsI, idv, idl] at hc; done) | (simp [eqC, cellsI, idv, idl] at hc; omega) | contradiction); (try clear hq) | (with_reducible refine Owe.mk ?_ ?_); (first | omega | (unfold most; omega) | decide +kernel | assumption | (simp [most]; done) | (simp [most]; omega)) | (with_reducible intro z hz); first | (replace hz := hz (by omega); subst hz) | subst hz)); try (conv => whnf)
    refine Imms.mk (sv s.L) rfl ?_
    (repeat ((conv => whnf); first | (with_reducible refine Fork.mk (fun hq => ?_) (fun hc => ?_)); rotate_left; (exfalso; first | omega | (simp [eqC, cellsI, idv, idl] at hc; done) | (simp [eqC, cellsI, idv, idl] at hc; omega) | contradiction); (try clear hq) | (with_reducible refine Fork.mk (fun hc => ?_) (fun hq => ?_)); (exfalso; first | omega | (simp [eqC, cellsI, idv, idl] at hc; done) | (simp [eqC, cellsI, idv, idl] at hc; omega) | contradiction); (try clear hq) | (with_reducible refine Owe.mk ?_ ?_); (first | omega | (unfold most; omega) | decide +kernel | assumption | (simp [most]; done) | (simp [most]; omega)) | (with_reducible intro z hz); first | (replace hz := hz (by omega); subst hz) | subst hz)); try (conv => whnf)
    refine CallB.mk ([.imm (.int .i64 16)]) ([.box 1 [.row 1 1, .imm (.int .i64 s.d), .imm (.int .i64 s.r), .imm (.int .i64 s.c), .imm (.bool s.off)], .row 9 1 1 (sv s.L)]) (hB _ _ _ _ _ (hp)) ?_
    (repeat ((conv => whnf); first | (with_reducible refine Fork.mk (fun hq => ?_) (fun hc => ?_)); rotate_left; (exfalso; first | omega | (simp [eqC, cellsI, idv, idl] at hc; done) | (simp [eqC, cellsI, idv, idl] at hc; omega) | contradiction); (try clear hq) | (with_reducible refine Fork.mk (fun hc => ?_) (fun hq => ?_)); (exfalso; first | omega | (simp [eqC, cellsI, idv, idl] at hc; done) | (simp [eqC, cellsI, idv, idl] at hc; omega) | contradiction); (try clear hq) | (with_reducible refine Owe.mk ?_ ?_); (first | omega | (unfold most; omega) | decide +kernel | assumption | (simp [most]; done) | (simp [most]; omega)) | (with_reducible intro z hz); first | (replace hz := hz (by omega); subst hz) | subst hz)); try (conv => whnf)
    exact hfin _ (Weak.slots 2 (by first | omega | (rw [h0]; exact Nat.le_of_ble_eq_true rfl)) rfl rfl (by first | rfl | (simp only [List.all_cons, List.all_nil, blkBelow, belowL_imm, belowL, belowB, Bool.and_true, Bool.true_and]; first | done | decide) | simp [blkBelow, belowB, belowL, belowL_imm]) (by repeat (first | exact Wk.nil | refine Wk.drop16 ?_ | refine Wk.drop4 ?_ | refine Wk.drop ?_ | refine Wk.eq (by with_reducible rfl) rfl ?_ | refine Wk.eq (congrArg (fun z => PV.imm (IV.int IntKind.i64 z)) (by first | omega | (simp; done) | (simp; omega))) rfl ?_ | refine Wk.eq rfl rfl ?_)))
  · rw [show rd s p = (⟨#[]⟩, 3) by simp [rd, h1]]
    rw [h1] at hp
    refine PCB.of_vc (T := tb0) eqs_ok tb_ok rfl mixed Try.func17 rfl rfl rfl ?_; intro Γ C WK LP fin h0 hk0 hW hC hB hR hLP hfin
    (repeat ((conv => whnf); first | (with_reducible refine Fork.mk (fun hq => ?_) (fun hc => ?_)); rotate_left; (exfalso; first | omega | (simp [eqC, cellsI, idv, idl] at hc; done) | (simp [eqC, cellsI, idv, idl] at hc; omega) | contradiction); (try clear hq) | (with_reducible refine Fork.mk (fun hc => ?_) (fun hq => ?_)); (exfalso; first | omega | (simp [eqC, cellsI, idv, idl] at hc; done) | (simp [eqC, cellsI, idv, idl] at hc; omega) | contradiction); (try clear hq) | (with_reducible refine Owe.mk ?_ ?_); (first | omega | (unfold most; omega) | decide +kernel | assumption | (simp [most]; done) | (simp [most]; omega)) | (with_reducible intro z hz); first | (replace hz := hz (by omega); subst hz) | subst hz)); try (conv => whnf)
    refine Imms.mk (sv s.L) rfl ?_
    (repeat ((conv => whnf); first | (with_reducible refine Fork.mk (fun hq => ?_) (fun hc => ?_)); rotate_left; (exfalso; first | omega | (simp [eqC, cellsI, idv, idl] at hc; done) | (simp [eqC, cellsI, idv, idl] at hc; omega) | contradiction); (try clear hq) | (with_reducible refine Fork.mk (fun hc => ?_) (fun hq => ?_)); (exfalso; first | omega | (simp [eqC, cellsI, idv, idl] at hc; done) | (simp [eqC, cellsI, idv, idl] at hc; omega) | contradiction); (try clear hq) | (with_reducible refine Owe.mk ?_ ?_); (first | omega | (unfold most; omega) | decide +kernel | assumption | (simp [most]; done) | (simp [most]; omega)) | (with_reducible intro z hz); first | (replace hz := hz (by omega); subst hz) | subst hz)); try (conv => whnf)
    refine CallB.mk ([.imm (.int .i64 3)]) ([.box 1 [.row 1 1, .imm (.int .i64 s.d), .imm (.int .i64 s.r), .imm (.int .i64 s.c), .imm (.bool s.off)], .row 9 1 1 (sv s.L)]) (hB _ _ _ _ _ (hp)) ?_
    (repeat ((conv => whnf); first | (with_reducible refine Fork.mk (fun hq => ?_) (fun hc => ?_)); rotate_left; (exfalso; first | omega | (simp [eqC, cellsI, idv, idl] at hc; done) | (simp [eqC, cellsI, idv, idl] at hc; omega) | contradiction); (try clear hq) | (with_reducible refine Fork.mk (fun hc => ?_) (fun hq => ?_)); (exfalso; first | omega | (simp [eqC, cellsI, idv, idl] at hc; done) | (simp [eqC, cellsI, idv, idl] at hc; omega) | contradiction); (try clear hq) | (with_reducible refine Owe.mk ?_ ?_); (first | omega | (unfold most; omega) | decide +kernel | assumption | (simp [most]; done) | (simp [most]; omega)) | (with_reducible intro z hz); first | (replace hz := hz (by omega); subst hz) | subst hz)); try (conv => whnf)
    exact hfin _ (Weak.slots 2 (by first | omega | (rw [h0]; exact Nat.le_of_ble_eq_true rfl)) rfl rfl (by first | rfl | (simp only [List.all_cons, List.all_nil, blkBelow, belowL_imm, belowL, belowB, Bool.and_true, Bool.true_and]; first | done | decide) | simp [blkBelow, belowB, belowL, belowL_imm]) (by repeat (first | exact Wk.nil | refine Wk.drop16 ?_ | refine Wk.drop4 ?_ | refine Wk.drop ?_ | refine Wk.eq (by with_reducible rfl) rfl ?_ | refine Wk.eq (congrArg (fun z => PV.imm (IV.int IntKind.i64 z)) (by first | omega | (simp; done) | (simp; omega))) rfl ?_ | refine Wk.eq rfl rfl ?_)))
end Go.Proofs.Ytmaapgbplbhlfaa.Pu

namespace Go.Proofs.Ytmaapgbplbhlfaa.Pu
open Go Go.Pv
set_option linter.unusedSimpArgs false

set_option maxRecDepth 10000
set_option maxHeartbeats 8000000
/-- The body of Append. -/
theorem appbody_pcb (s : Sto) (hs : s.L.length ≤ 4096) (t : ByteArray) (pg : Int) : PCB Try.prog envU 31 [.ptr 0 1 0, .ptr 1 1 0, .ptr 2 1 0] [.box 1 [.ptr 3 1 0], .box 1 [.imm (.int .i64 pg)], .box 1 [.imm (.str t)], .box 1 [.row 4 1, .imm (.int .i64 s.d), .imm (.int .i64 s.r), .imm (.int .i64 s.c), .imm (.bool s.off)], .row 9 1 1 ((sv s.L).map .imm)] []
    [.box 1 [.ptr 3 1 0], .box 1 [.imm (.int .i64 (s.L.length : Nat))], .box 1 [.imm (.str t)], .box 1 [.row 4 2, .imm (.int .i64 s.d), .imm (.int .i64 s.r), .imm (.int .i64 s.c), .imm (.bool s.off)], .row 9 1 2 ((sv (s.L ++ [t])).map .imm)] := by
  have hl := sv_len s.L
  have hl1 := sv_len1 s.L
  refine PCB.of_vc (T := tb0) eqs_ok tb_ok rfl mixed Try.func31 rfl rfl rfl ?_; intro Γ C WK LP fin h0 hk0 hW hC hB hR hLP hfin
  (repeat ((conv => whnf); first | (with_reducible refine Fork.mk (fun hq => ?_) (fun hc => ?_)); rotate_left; (exfalso; first | omega | (simp [eqC, cellsI, idv, idl] at hc; done) | (simp [eqC, cellsI, idv, idl] at hc; omega) | contradiction); (try clear hq) | (with_reducible refine Fork.mk (fun hc => ?_) (fun hq => ?_)); (exfalso; first | omega | (simp [eqC, cellsI, idv, idl] at hc; done) | (simp [eqC, cellsI, idv, idl] at hc; omega) | contradiction); (try clear hq) | (with_reducible refine Owe.mk ?_ ?_); (first | omega | (unfold most; omega) | decide +kernel | assumption | (simp [most]; done) | (simp [most]; omega)) | (with_reducible intro z hz); first | (replace hz := hz (by omega); subst hz) | subst hz)); try (conv => whnf)
  rw [hl]
  exact hfin _ (Weak.trans (Weak.row 4 ((sv (s.L ++ [t])).map .imm) rfl (by simp [sv])) (Weak.slots 5 (by first | omega | (rw [h0]; exact Nat.le_of_ble_eq_true rfl)) rfl rfl (by first | rfl | (simp only [List.all_cons, List.all_nil, blkBelow, belowL_imm, belowL, belowB, Bool.and_true, Bool.true_and]; first | done | decide) | simp [blkBelow, belowB, belowL, belowL_imm]) (by repeat (first | exact Wk.nil | refine Wk.drop16 ?_ | refine Wk.drop4 ?_ | refine Wk.drop ?_ | refine Wk.eq (by with_reducible rfl) rfl ?_ | refine Wk.eq (congrArg (fun z => PV.imm (IV.int IntKind.i64 z)) (by first | omega | (simp; done) | (simp; omega))) rfl ?_ | refine Wk.eq rfl rfl ?_))))
/-- The power is lost. -/
theorem exec_off (s : Sto) (h : s.c = 0) (f : FuncId) (t : ByteArray) (pg : Int) : PCB Try.prog envU 30 [.ptr 0 1 0, .clo f [.ptr 1 1 0, .ptr 2 1 0, .ptr 3 1 0]] [.box 1 [.row 4 1, .imm (.int .i64 s.d), .imm (.int .i64 s.r), .imm (.int .i64 s.c), .imm (.bool s.off)], .box 1 [.ptr 0 1 0], .box 1 [.imm (.int .i64 pg)], .box 1 [.imm (.str t)], .row 9 1 1 ((sv s.L).map .imm)] [.imm (.int .i64 16)]
    [.box 1 [.row 4 1, .imm (.int .i64 s.d), .imm (.int .i64 s.r), .imm (.int .i64 s.c), .imm (.bool true)], .box 1 [.ptr 0 1 0], .box 1 [.imm (.int .i64 pg)], .box 1 [.imm (.str t)], .row 9 1 1 ((sv s.L).map .imm)] := by
  refine PCB.of_vc (T := tb0) eqs_ok tb_ok rfl mixed Try.func30 rfl rfl rfl ?_; intro Γ C WK LP fin h0 hk0 hW hC hB hR hLP hfin
  (repeat ((conv => whnf); first | (with_reducible refine Fork.mk (fun hq => ?_) (fun hc => ?_)); rotate_left; (exfalso; first | omega | (simp [eqC, cellsI, idv, idl] at hc; done) | (simp [eqC, cellsI, idv, idl] at hc; omega) | contradiction); (try clear hq) | (with_reducible refine Fork.mk (fun hc => ?_) (fun hq => ?_)); (exfalso; first | omega | (simp [eqC, cellsI, idv, idl] at hc; done) | (simp [eqC, cellsI, idv, idl] at hc; omega) | contradiction); (try clear hq) | (with_reducible refine Owe.mk ?_ ?_); (first | omega | (unfold most; omega) | decide +kernel | assumption | (simp [most]; done) | (simp [most]; omega)) | (with_reducible intro z hz); first | (replace hz := hz (by omega); subst hz) | subst hz)); try (conv => whnf)
  exact hfin _ (Weak.slots 5 (by first | omega | (rw [h0]; exact Nat.le_of_ble_eq_true rfl)) rfl rfl (by first | rfl | (simp only [List.all_cons, List.all_nil, blkBelow, belowL_imm, belowL, belowB, Bool.and_true, Bool.true_and]; first | done | decide) | simp [blkBelow, belowB, belowL, belowL_imm]) (by repeat (first | exact Wk.nil | refine Wk.drop16 ?_ | refine Wk.drop4 ?_ | refine Wk.drop ?_ | refine Wk.eq (by with_reducible rfl) rfl ?_ | refine Wk.eq (congrArg (fun z => PV.imm (IV.int IntKind.i64 z)) (by first | omega | (simp; done) | (simp; omega))) rfl ?_ | refine Wk.eq rfl rfl ?_)))
theorem execapp_pcb (s : Sto) (hs : s.L.length ≤ 4096) (hc : in64 s.c) (h : s.c ≠ 0) (t : ByteArray) (pg : Int) : PCB Try.prog envU 30 [.ptr 0 1 0, .clo 31 [.ptr 1 1 0, .ptr 2 1 0, .ptr 3 1 0]] [.box 1 [.row 4 1, .imm (.int .i64 s.d), .imm (.int .i64 s.r), .imm (.int .i64 s.c), .imm (.bool s.off)], .box 1 [.ptr 0 1 0], .box 1 [.imm (.int .i64 pg)], .box 1 [.imm (.str t)], .row 9 1 1 ((sv s.L).map .imm)] [.imm (.int .i64 0)]
    [.box 1 [.row 4 2, .imm (.int .i64 s.d), .imm (.int .i64 s.r), .imm (.int .i64 (dec s.c)), .imm (.bool s.off)], .box 1 [.ptr 0 1 0], .box 1 [.imm (.int .i64 (s.L.length : Nat))], .box 1 [.imm (.str t)], .row 9 1 2 ((sv (s.L ++ [t])).map .imm)] := by
  have hb := appbody_pcb ⟨s.L, s.d, s.r, dec s.c, s.off⟩ hs t pg
  unfold in64 at hc
  by_cases h1 : 0 < s.c
  · have hd : dec s.c = s.c - 1 := by simp [dec, h1]
    rw [hd] at hb ⊢
    refine PCB.of_vc (T := tb0) eqs_ok tb_ok rfl mixed Try.func30 rfl rfl rfl ?_; intro Γ C WK LP fin h0 hk0 hW hC hB hR hLP hfin
    (repeat ((conv => whnf); first | (with_reducible refine Fork.mk (fun hq => ?_) (fun hc => ?_)); rotate_left; (exfalso; first | omega | (simp [eqC, cellsI, idv, idl] at hc; done) | (simp [eqC, cellsI, idv, idl] at hc; omega) | contradiction); (try clear hq) | (with_reducible refine Fork.mk (fun hc => ?_) (fun hq => ?_)); (exfalso; first | omega | (simp [eqC, cellsI, idv, idl] at hc; done) | (simp [eqC, cellsI, idv, idl] at hc; omega) | contradiction); (try clear hq) | (with_reducible refine Owe.mk ?_ ?_); (first | omega | (unfold most; omega) | decide +kernel | assumption | (simp [most]; done) | (simp [most]; omega)) | (with_reducible intro z hz); first | (replace hz := hz (by omega); subst hz) | subst hz)); try (conv => whnf)
    refine Imms.mk (sv s.L) rfl ?_
    (repeat ((conv => whnf); first | (with_reducible refine Fork.mk (fun hq => ?_) (fun hc => ?_)); rotate_left; (exfalso; first | omega | (simp [eqC, cellsI, idv, idl] at hc; done) | (simp [eqC, cellsI, idv, idl] at hc; omega) | contradiction); (try clear hq) | (with_reducible refine Fork.mk (fun hc => ?_) (fun hq => ?_)); (exfalso; first | omega | (simp [eqC, cellsI, idv, idl] at hc; done) | (simp [eqC, cellsI, idv, idl] at hc; omega) | contradiction); (try clear hq) | (with_reducible refine Owe.mk ?_ ?_); (first | omega | (unfold most; omega) | decide +kernel | assumption | (simp [most]; done) | (simp [most]; omega)) | (with_reducible intro z hz); first | (replace hz := hz (by omega); subst hz) | subst hz)); try (conv => whnf)
    refine CallB.mk ([]) ([.box 1 [.ptr 3 1 0], .box 1 [.imm (.int .i64 (s.L.length : Nat))], .box 1 [.imm (.str t)], .box 1 [.row 4 2, .imm (.int .i64 s.d), .imm (.int .i64 s.r), .imm (.int .i64 (s.c - 1)), .imm (.bool s.off)], .row 9 1 2 (sv (s.L ++ [t]))]) (hB _ _ _ _ _ (hb)) ?_
    (repeat ((conv => whnf); first | (with_reducible refine Fork.mk (fun hq => ?_) (fun hc => ?_)); rotate_left; (exfalso; first | omega | (simp [eqC, cellsI, idv, idl] at hc; done) | (simp [eqC, cellsI, idv, idl] at hc; omega) | contradiction); (try clear hq) | (with_reducible refine Fork.mk (fun hc => ?_) (fun hq => ?_)); (exfalso; first | omega | (simp [eqC, cellsI, idv, idl] at hc; done) | (simp [eqC, cellsI, idv, idl] at hc; omega) | contradiction); (try clear hq) | (with_reducible refine Owe.mk ?_ ?_); (first | omega | (unfold most; omega) | decide +kernel | assumption | (simp [most]; done) | (simp [most]; omega)) | (with_reducible intro z hz); first | (replace hz := hz (by omega); subst hz) | subst hz)); try (conv => whnf)
    exact hfin _ (Weak.slots 5 (by first | omega | (rw [h0]; exact Nat.le_of_ble_eq_true rfl)) rfl rfl (by first | rfl | (simp only [List.all_cons, List.all_nil, blkBelow, belowL_imm, belowL, belowB, Bool.and_true, Bool.true_and]; first | done | decide) | simp [blkBelow, belowB, belowL, belowL_imm]) (by repeat (first | exact Wk.nil | refine Wk.drop16 ?_ | refine Wk.drop4 ?_ | refine Wk.drop ?_ | refine Wk.eq (by with_reducible rfl) rfl ?_ | refine Wk.eq (congrArg (fun z => PV.imm (IV.int IntKind.i64 z)) (by first | omega | (simp; done) | (simp; omega))) rfl ?_ | refine Wk.eq rfl rfl ?_)))
  · have hd : dec s.c = s.c := by simp [dec, h1]
    rw [hd] at hb ⊢
    refine PCB.of_vc (T := tb0) eqs_ok tb_ok rfl mixed Try.func30 rfl rfl rfl ?_; intro Γ C WK LP fin h0 hk0 hW hC hB hR hLP hfin
    (repeat ((conv => whnf); first | (with_reducible refine Fork.mk (fun hq => ?_) (fun hc => ?_)); rotate_left; (exfalso; first | omega | (simp [eqC, cellsI, idv, idl] at hc; done) | (simp [eqC, cellsI, idv, idl] at hc; omega) | contradiction); (try clear hq) | (with_reducible refine Fork.mk (fun hc => ?_) (fun hq => ?_)); (exfalso; first | omega | (simp [eqC, cellsI, idv, idl] at hc; done) | (simp [eqC, cellsI, idv, idl] at hc; omega) | contradiction); (try clear hq) | (with_reducible refine Owe.mk ?_ ?_); (first | omega | (unfold most; omega) | decide +kernel | assumption | (simp [most]; done) | (simp [most]; omega)) | (with_reducible intro z hz); first | (replace hz := hz (by omega); subst hz) | subst hz)); try (conv => whnf)
    refine Imms.mk (sv s.L) rfl ?_
    (repeat ((conv => whnf); first | (with_reducible refine Fork.mk (fun hq => ?_) (fun hc => ?_)); rotate_left; (exfalso; first | omega | (simp [eqC, cellsI, idv, idl] at hc; done) | (simp [eqC, cellsI, idv, idl] at hc; omega) | contradiction); (try clear hq) | (with_reducible refine Fork.mk (fun hc => ?_) (fun hq => ?_)); (exfalso; first | omega | (simp [eqC, cellsI, idv, idl] at hc; done) | (simp [eqC, cellsI, idv, idl] at hc; omega) | contradiction); (try clear hq) | (with_reducible refine Owe.mk ?_ ?_); (first | omega | (unfold most; omega) | decide +kernel | assumption | (simp [most]; done) | (simp [most]; omega)) | (with_reducible intro z hz); first | (replace hz := hz (by omega); subst hz) | subst hz)); try (conv => whnf)
    refine CallB.mk ([]) ([.box 1 [.ptr 3 1 0], .box 1 [.imm (.int .i64 (s.L.length : Nat))], .box 1 [.imm (.str t)], .box 1 [.row 4 2, .imm (.int .i64 s.d), .imm (.int .i64 s.r), .imm (.int .i64 s.c), .imm (.bool s.off)], .row 9 1 2 (sv (s.L ++ [t]))]) (hB _ _ _ _ _ (hb)) ?_
    (repeat ((conv => whnf); first | (with_reducible refine Fork.mk (fun hq => ?_) (fun hc => ?_)); rotate_left; (exfalso; first | omega | (simp [eqC, cellsI, idv, idl] at hc; done) | (simp [eqC, cellsI, idv, idl] at hc; omega) | contradiction); (try clear hq) | (with_reducible refine Fork.mk (fun hc => ?_) (fun hq => ?_)); (exfalso; first | omega | (simp [eqC, cellsI, idv, idl] at hc; done) | (simp [eqC, cellsI, idv, idl] at hc; omega) | contradiction); (try clear hq) | (with_reducible refine Owe.mk ?_ ?_); (first | omega | (unfold most; omega) | decide +kernel | assumption | (simp [most]; done) | (simp [most]; omega)) | (with_reducible intro z hz); first | (replace hz := hz (by omega); subst hz) | subst hz)); try (conv => whnf)
    exact hfin _ (Weak.slots 5 (by first | omega | (rw [h0]; exact Nat.le_of_ble_eq_true rfl)) rfl rfl (by first | rfl | (simp only [List.all_cons, List.all_nil, blkBelow, belowL_imm, belowL, belowB, Bool.and_true, Bool.true_and]; first | done | decide) | simp [blkBelow, belowB, belowL, belowL_imm]) (by repeat (first | exact Wk.nil | refine Wk.drop16 ?_ | refine Wk.drop4 ?_ | refine Wk.drop ?_ | refine Wk.eq (by with_reducible rfl) rfl ?_ | refine Wk.eq (congrArg (fun z => PV.imm (IV.int IntKind.i64 z)) (by first | omega | (simp; done) | (simp; omega))) rfl ?_ | refine Wk.eq rfl rfl ?_)))
theorem append_pcb (s : Sto) (hs : s.L.length ≤ 4096) (hc : in64 s.c) (t : ByteArray) : PCB Try.prog envU 19 [.ptr 0 1 0, .imm (.str t)] [.box 1 [.row 1 1, .imm (.int .i64 s.d), .imm (.int .i64 s.r), .imm (.int .i64 s.c), .imm (.bool s.off)], .row 9 1 1 ((sv s.L).map .imm)] [.imm (.int .i64 (app s t).2.1), .imm (.int .i64 (app s t).2.2)] [.box 1 [.row 1 2, .imm (.int .i64 (app s t).1.d), .imm (.int .i64 (app s t).1.r), .imm (.int .i64 (app s t).1.c), .imm (.bool (app s t).1.off)], .row 9 1 2 ((sv (app s t).1.L).map .imm)] := by
  have hl := sv_len s.L
  cases ho : s.off with
  | true =>
    rw [show app s t = (s, 0, 16) by simp [app, ho]]
    dsimp only
    rw [ho]
    refine PCB.of_vc (T := tb0) eqs_ok tb_ok rfl mixed Try.func19 rfl rfl rfl ?_; intro Γ C WK LP fin h0 hk0 hW hC hB hR hLP hfin
    (repeat ((conv => whnf); first | (with_reducible refine Fork.mk (fun hq => ?_) (fun hc => ?_)); rotate_left; (exfalso; first | omega | (simp [eqC, cellsI, idv, idl] at hc; done) | (simp [eqC, cellsI, idv, idl] at hc; omega) | contradiction); (try clear hq) | (with_reducible refine Fork.mk (fun hc => ?_) (fun hq => ?_)); (exfalso; first | omega | (simp [eqC, cellsI, idv, idl] at hc; done) | (simp [eqC, cellsI, idv, idl] at hc; omega) | contradiction); (try clear hq) | (with_reducible refine Owe.mk ?_ ?_); (first | omega | (unfold most; omega) | decide +kernel | assumption | (simp [most]; done) | (simp [most]; omega)) | (with_reducible intro z hz); first | (replace hz := hz (by omega); subst hz) | subst hz)); try (conv => whnf)
    exact hfin _ (Weak.trans (Weak.renew 1 2 rfl (by first | omega | (intro _; rw [hk0 _ _ rfl]; exact Nat.le_of_ble_eq_true rfl)) (by repeat (first | exact trivial | refine And.intro (rgL_imms _ _ _ _) ?_ | refine And.intro rfl ?_))) (Weak.slots 2 (by first | omega | (rw [h0]; exact Nat.le_of_ble_eq_true rfl)) rfl rfl (by first | rfl | (simp only [List.all_cons, List.all_nil, blkBelow, belowL_imm, belowL, belowB, Bool.and_true, Bool.true_and]; first | done | decide) | simp [blkBelow, belowB, belowL, belowL_imm]) (by repeat (first | exact Wk.nil | refine Wk.drop16 ?_ | refine Wk.drop4 ?_ | refine Wk.drop ?_ | refine Wk.eq (by with_reducible rfl) rfl ?_ | refine Wk.eq (congrArg (fun z => PV.imm (IV.int IntKind.i64 z)) (by first | omega | (simp; done) | (simp; omega))) rfl ?_ | refine Wk.eq rfl rfl ?_))))
  | false =>
    by_cases h1 : 16384 < t.size
    · rw [show app s t = (s, 0, 1) by simp [app, ho, h1]]
      dsimp only
      rw [ho]
      refine PCB.of_vc (T := tb0) eqs_ok tb_ok rfl mixed Try.func19 rfl rfl rfl ?_; intro Γ C WK LP fin h0 hk0 hW hC hB hR hLP hfin
      (repeat ((conv => whnf); first | (with_reducible refine Fork.mk (fun hq => ?_) (fun hc => ?_)); rotate_left; (exfalso; first | omega | (simp [eqC, cellsI, idv, idl] at hc; done) | (simp [eqC, cellsI, idv, idl] at hc; omega) | contradiction); (try clear hq) | (with_reducible refine Fork.mk (fun hc => ?_) (fun hq => ?_)); (exfalso; first | omega | (simp [eqC, cellsI, idv, idl] at hc; done) | (simp [eqC, cellsI, idv, idl] at hc; omega) | contradiction); (try clear hq) | (with_reducible refine Owe.mk ?_ ?_); (first | omega | (unfold most; omega) | decide +kernel | assumption | (simp [most]; done) | (simp [most]; omega)) | (with_reducible intro z hz); first | (replace hz := hz (by omega); subst hz) | subst hz)); try (conv => whnf)
      exact hfin _ (Weak.trans (Weak.renew 1 2 rfl (by first | omega | (intro _; rw [hk0 _ _ rfl]; exact Nat.le_of_ble_eq_true rfl)) (by repeat (first | exact trivial | refine And.intro (rgL_imms _ _ _ _) ?_ | refine And.intro rfl ?_))) (Weak.slots 2 (by first | omega | (rw [h0]; exact Nat.le_of_ble_eq_true rfl)) rfl rfl (by first | rfl | (simp only [List.all_cons, List.all_nil, blkBelow, belowL_imm, belowL, belowB, Bool.and_true, Bool.true_and]; first | done | decide) | simp [blkBelow, belowB, belowL, belowL_imm]) (by repeat (first | exact Wk.nil | refine Wk.drop16 ?_ | refine Wk.drop4 ?_ | refine Wk.drop ?_ | refine Wk.eq (by with_reducible rfl) rfl ?_ | refine Wk.eq (congrArg (fun z => PV.imm (IV.int IntKind.i64 z)) (by first | omega | (simp; done) | (simp; omega))) rfl ?_ | refine Wk.eq rfl rfl ?_))))
    · by_cases h2 : 4096 ≤ s.L.length
      · rw [show app s t = (s, 0, 6) by simp [app, ho, h1, h2]]
        dsimp only
        rw [ho]
        refine PCB.of_vc (T := tb0) eqs_ok tb_ok rfl mixed Try.func19 rfl rfl rfl ?_; intro Γ C WK LP fin h0 hk0 hW hC hB hR hLP hfin
        (repeat ((conv => whnf); first | (with_reducible refine Fork.mk (fun hq => ?_) (fun hc => ?_)); rotate_left; (exfalso; first | omega | (simp [eqC, cellsI, idv, idl] at hc; done) | (simp [eqC, cellsI, idv, idl] at hc; omega) | contradiction); (try clear hq) | (with_reducible refine Fork.mk (fun hc => ?_) (fun hq => ?_)); (exfalso; first | omega | (simp [eqC, cellsI, idv, idl] at hc; done) | (simp [eqC, cellsI, idv, idl] at hc; omega) | contradiction); (try clear hq) | (with_reducible refine Owe.mk ?_ ?_); (first | omega | (unfold most; omega) | decide +kernel | assumption | (simp [most]; done) | (simp [most]; omega)) | (with_reducible intro z hz); first | (replace hz := hz (by omega); subst hz) | subst hz)); try (conv => whnf)
        exact hfin _ (Weak.trans (Weak.renew 1 2 rfl (by first | omega | (intro _; rw [hk0 _ _ rfl]; exact Nat.le_of_ble_eq_true rfl)) (by repeat (first | exact trivial | refine And.intro (rgL_imms _ _ _ _) ?_ | refine And.intro rfl ?_))) (Weak.slots 2 (by first | omega | (rw [h0]; exact Nat.le_of_ble_eq_true rfl)) rfl rfl (by first | rfl | (simp only [List.all_cons, List.all_nil, blkBelow, belowL_imm, belowL, belowB, Bool.and_true, Bool.true_and]; first | done | decide) | simp [blkBelow, belowB, belowL, belowL_imm]) (by repeat (first | exact Wk.nil | refine Wk.drop16 ?_ | refine Wk.drop4 ?_ | refine Wk.drop ?_ | refine Wk.eq (by with_reducible rfl) rfl ?_ | refine Wk.eq (congrArg (fun z => PV.imm (IV.int IntKind.i64 z)) (by first | omega | (simp; done) | (simp; omega))) rfl ?_ | refine Wk.eq rfl rfl ?_))))
      · by_cases h3 : s.c = 0
        · have hX := exec_off s h3 31 t 0
          rw [show app s t = (⟨s.L, s.d, s.r, s.c, true⟩, 0, 16) by simp [app, ho, h1, h2, h3]]
          dsimp only
          rw [ho] at hX
          refine PCB.of_vc (T := tb0) eqs_ok tb_ok rfl mixed Try.func19 rfl rfl rfl ?_; intro Γ C WK LP fin h0 hk0 hW hC hB hR hLP hfin
          (repeat ((conv => whnf); first | (with_reducible refine Fork.mk (fun hq => ?_) (fun hc => ?_)); rotate_left; (exfalso; first | omega | (simp [eqC, cellsI, idv, idl] at hc; done) | (simp [eqC, cellsI, idv, idl] at hc; omega) | contradiction); (try clear hq) | (with_reducible refine Fork.mk (fun hc => ?_) (fun hq => ?_)); (exfalso; first | omega | (simp [eqC, cellsI, idv, idl] at hc; done) | (simp [eqC, cellsI, idv, idl] at hc; omega) | contradiction); (try clear hq) | (with_reducible refine Owe.mk ?_ ?_); (first | omega | (unfold most; omega) | decide +kernel | assumption | (simp [most]; done) | (simp [most]; omega)) | (with_reducible intro z hz); first | (replace hz := hz (by omega); subst hz) | subst hz)); try (conv => whnf)
          refine Imms.mk (sv s.L) rfl ?_
          (repeat ((conv => whnf); first | (with_reducible refine Fork.mk (fun hq => ?_) (fun hc => ?_)); rotate_left; (exfalso; first | omega | (simp [eqC, cellsI, idv, idl] at hc; done) | (simp [eqC, cellsI, idv, idl] at hc; omega) | contradiction); (try clear hq) | (with_reducible refine Fork.mk (fun hc => ?_) (fun hq => ?_)); (exfalso; first | omega | (simp [eqC, cellsI, idv, idl] at hc; done) | (simp [eqC, cellsI, idv, idl] at hc; omega) | contradiction); (try clear hq) | (with_reducible refine Owe.mk ?_ ?_); (first | omega | (unfold most; omega) | decide +kernel | assumption | (simp [most]; done) | (simp [most]; omega)) | (with_reducible intro z hz); first | (replace hz := hz (by omega); subst hz) | subst hz)); try (conv => whnf)
          refine CallB.mk ([.imm (.int .i64 16)]) ([.box 1 [.row 4 1, .imm (.int .i64 s.d), .imm (.int .i64 s.r), .imm (.int .i64 s.c), .imm (.bool true)], .box 1 [.ptr 0 1 0], .box 1 [.imm (.int .i64 0)], .box 1 [.imm (.str t)], .row 9 1 1 (sv s.L)]) (hB _ _ _ _ _ (hX)) ?_
          (repeat ((conv => whnf); first | (with_reducible refine Fork.mk (fun hq => ?_) (fun hc => ?_)); rotate_left; (exfalso; first | omega | (simp [eqC, cellsI, idv, idl] at hc; done) | (simp [eqC, cellsI, idv, idl] at hc; omega) | contradiction); (try clear hq) | (with_reducible refine Fork.mk (fun hc => ?_) (fun hq => ?_)); (exfalso; first | omega | (simp [eqC, cellsI, idv, idl] at hc; done) | (simp [eqC, cellsI, idv, idl] at hc; omega) | contradiction); (try clear hq) | (with_reducible refine Owe.mk ?_ ?_); (first | omega | (unfold most; omega) | decide +kernel | assumption | (simp [most]; done) | (simp [most]; omega)) | (with_reducible intro z hz); first | (replace hz := hz (by omega); subst hz) | subst hz)); try (conv => whnf)
          exact hfin _ (Weak.trans (Weak.renew 1 2 rfl (by first | omega | (intro _; rw [hk0 _ _ rfl]; exact Nat.le_of_ble_eq_true rfl)) (by repeat (first | exact trivial | refine And.intro (rgL_imms _ _ _ _) ?_ | refine And.intro rfl ?_))) (Weak.slots 2 (by first | omega | (rw [h0]; exact Nat.le_of_ble_eq_true rfl)) rfl rfl (by first | rfl | (simp only [List.all_cons, List.all_nil, blkBelow, belowL_imm, belowL, belowB, Bool.and_true, Bool.true_and]; first | done | decide) | simp [blkBelow, belowB, belowL, belowL_imm]) (by repeat (first | exact Wk.nil | refine Wk.drop16 ?_ | refine Wk.drop4 ?_ | refine Wk.drop ?_ | refine Wk.eq (by with_reducible rfl) rfl ?_ | refine Wk.eq (congrArg (fun z => PV.imm (IV.int IntKind.i64 z)) (by first | omega | (simp; done) | (simp; omega))) rfl ?_ | refine Wk.eq rfl rfl ?_))))
        · have hX := execapp_pcb s hs hc h3 t 0
          rw [show app s t = (⟨s.L ++ [t], s.d, s.r, dec s.c, s.off⟩, (s.L.length : Int), 0) by simp [app, ho, h1, h2, h3]]
          dsimp only
          rw [ho] at hX ⊢
          refine PCB.of_vc (T := tb0) eqs_ok tb_ok rfl mixed Try.func19 rfl rfl rfl ?_; intro Γ C WK LP fin h0 hk0 hW hC hB hR hLP hfin
          (repeat ((conv => whnf); first | (with_reducible refine Fork.mk (fun hq => ?_) (fun hc => ?_)); rotate_left; (exfalso; first | omega | (simp [eqC, cellsI, idv, idl] at hc; done) | (simp [eqC, cellsI, idv, idl] at hc; omega) | contradiction); (try clear hq) | (with_reducible refine Fork.mk (fun hc => ?_) (fun hq => ?_)); (exfalso; first | omega | (simp [eqC, cellsI, idv, idl] at hc; done) | (simp [eqC, cellsI, idv, idl] at hc; omega) | contradiction); (try clear hq) | (with_reducible refine Owe.mk ?_ ?_); (first | omega | (unfold most; omega) | decide +kernel | assumption | (simp [most]; done) | (simp [most]; omega)) | (with_reducible intro z hz); first | (replace hz := hz (by omega); subst hz) | subst hz)); try (conv => whnf)
          refine Imms.mk (sv s.L) rfl ?_
          (repeat ((conv => whnf); first | (with_reducible refine Fork.mk (fun hq => ?_) (fun hc => ?_)); rotate_left; (exfalso; first | omega | (simp [eqC, cellsI, idv, idl] at hc; done) | (simp [eqC, cellsI, idv, idl] at hc; omega) | contradiction); (try clear hq) | (with_reducible refine Fork.mk (fun hc => ?_) (fun hq => ?_)); (exfalso; first | omega | (simp [eqC, cellsI, idv, idl] at hc; done) | (simp [eqC, cellsI, idv, idl] at hc; omega) | contradiction); (try clear hq) | (with_reducible refine Owe.mk ?_ ?_); (first | omega | (unfold most; omega) | decide +kernel | assumption | (simp [most]; done) | (simp [most]; omega)) | (with_reducible intro z hz); first | (replace hz := hz (by omega); subst hz) | subst hz)); try (conv => whnf)
          refine CallB.mk ([.imm (.int .i64 0)]) ([.box 1 [.row 4 2, .imm (.int .i64 s.d), .imm (.int .i64 s.r), .imm (.int .i64 (dec s.c)), .imm (.bool false)], .box 1 [.ptr 0 1 0], .box 1 [.imm (.int .i64 (s.L.length : Nat))], .box 1 [.imm (.str t)], .row 9 1 2 (sv (s.L ++ [t]))]) (hB _ _ _ _ _ (hX)) ?_
          (repeat ((conv => whnf); first | (with_reducible refine Fork.mk (fun hq => ?_) (fun hc => ?_)); rotate_left; (exfalso; first | omega | (simp [eqC, cellsI, idv, idl] at hc; done) | (simp [eqC, cellsI, idv, idl] at hc; omega) | contradiction); (try clear hq) | (with_reducible refine Fork.mk (fun hc => ?_) (fun hq => ?_)); (exfalso; first | omega | (simp [eqC, cellsI, idv, idl] at hc; done) | (simp [eqC, cellsI, idv, idl] at hc; omega) | contradiction); (try clear hq) | (with_reducible refine Owe.mk ?_ ?_); (first | omega | (unfold most; omega) | decide +kernel | assumption | (simp [most]; done) | (simp [most]; omega)) | (with_reducible intro z hz); first | (replace hz := hz (by omega); subst hz) | subst hz)); try (conv => whnf)
          exact hfin _ (Weak.slots 2 (by first | omega | (rw [h0]; exact Nat.le_of_ble_eq_true rfl)) rfl rfl (by first | rfl | (simp only [List.all_cons, List.all_nil, blkBelow, belowL_imm, belowL, belowB, Bool.and_true, Bool.true_and]; first | done | decide) | simp [blkBelow, belowB, belowL, belowL_imm]) (by repeat (first | exact Wk.nil | refine Wk.drop16 ?_ | refine Wk.drop4 ?_ | refine Wk.drop ?_ | refine Wk.eq (by with_reducible rfl) rfl ?_ | refine Wk.eq (congrArg (fun z => PV.imm (IV.int IntKind.i64 z)) (by first | omega | (simp; done) | (simp; omega))) rfl ?_ | refine Wk.eq rfl rfl ?_)))
/-- The body of SetRoot. -/
theorem setbody_pcb (s : Sto) (p : Int) : PCB Try.prog envU 32 [.ptr 0 1 0, .ptr 1 1 0] [.box 1 [.imm (.int .i64 p)], .box 1 [.ptr 2 1 0], .box 1 [.row 3 1, .imm (.int .i64 s.d), .imm (.int .i64 s.r), .imm (.int .i64 s.c), .imm (.bool s.off)], .row 9 1 1 ((sv s.L).map .imm)] []
    [.box 1 [.imm (.int .i64 p)], .box 1 [.ptr 2 1 0], .box 1 [.row 3 1, .imm (.int .i64 (s.L.length : Nat)), .imm (.int .i64 p), .imm (.int .i64 s.c), .imm (.bool s.off)], .row 9 1 1 ((sv s.L).map .imm)] := by
  have hl := sv_len s.L
  refine PCB.of_vc (T := tb0) eqs_ok tb_ok rfl mixed Try.func32 rfl rfl rfl ?_; intro Γ C WK LP fin h0 hk0 hW hC hB hR hLP hfin
  (repeat ((conv => whnf); first | (with_reducible refine Fork.mk (fun hq => ?_) (fun hc => ?_)); rotate_left; (exfalso; first | omega | (simp [eqC, cellsI, idv, idl] at hc; done) | (simp [eqC, cellsI, idv, idl] at hc; omega) | contradiction); (try clear hq) | (with_reducible refine Fork.mk (fun hc => ?_) (fun hq => ?_)); (exfalso; first | omega | (simp [eqC, cellsI, idv, idl] at hc; done) | (simp [eqC, cellsI, idv, idl] at hc; omega) | contradiction); (try clear hq) | (with_reducible refine Owe.mk ?_ ?_); (first | omega | (unfold most; omega) | decide +kernel | assumption | (simp [most]; done) | (simp [most]; omega)) | (with_reducible intro z hz); first | (replace hz := hz (by omega); subst hz) | subst hz)); try (conv => whnf)
  rw [hl]
  exact hfin _ (Weak.slots 4 (by first | omega | (rw [h0]; exact Nat.le_of_ble_eq_true rfl)) rfl rfl (by first | rfl | (simp only [List.all_cons, List.all_nil, blkBelow, belowL_imm, belowL, belowB, Bool.and_true, Bool.true_and]; first | done | decide) | simp [blkBelow, belowB, belowL, belowL_imm]) (by repeat (first | exact Wk.nil | refine Wk.drop16 ?_ | refine Wk.drop4 ?_ | refine Wk.drop ?_ | refine Wk.eq (by with_reducible rfl) rfl ?_ | refine Wk.eq (congrArg (fun z => PV.imm (IV.int IntKind.i64 z)) (by first | omega | (simp; done) | (simp; omega))) rfl ?_ | refine Wk.eq rfl rfl ?_)))
theorem execset_off (s : Sto) (h : s.c = 0) (f : FuncId) (p : Int) : PCB Try.prog envU 30 [.ptr 0 1 0, .clo f [.ptr 1 1 0, .ptr 2 1 0]] [.box 1 [.row 3 1, .imm (.int .i64 s.d), .imm (.int .i64 s.r), .imm (.int .i64 s.c), .imm (.bool s.off)], .box 1 [.imm (.int .i64 p)], .box 1 [.ptr 0 1 0], .row 9 1 1 ((sv s.L).map .imm)] [.imm (.int .i64 16)]
    [.box 1 [.row 3 1, .imm (.int .i64 s.d), .imm (.int .i64 s.r), .imm (.int .i64 s.c), .imm (.bool true)], .box 1 [.imm (.int .i64 p)], .box 1 [.ptr 0 1 0], .row 9 1 1 ((sv s.L).map .imm)] := by
  refine PCB.of_vc (T := tb0) eqs_ok tb_ok rfl mixed Try.func30 rfl rfl rfl ?_; intro Γ C WK LP fin h0 hk0 hW hC hB hR hLP hfin
  (repeat ((conv => whnf); first | (with_reducible refine Fork.mk (fun hq => ?_) (fun hc => ?_)); rotate_left; (exfalso; first | omega | (simp [eqC, cellsI, idv, idl] at hc; done) | (simp [eqC, cellsI, idv, idl] at hc; omega) | contradiction); (try clear hq) | (with_reducible refine Fork.mk (fun hc => ?_) (fun hq => ?_)); (exfalso; first | omega | (simp [eqC, cellsI, idv, idl] at hc; done) | (simp [eqC, cellsI, idv, idl] at hc; omega) | contradiction); (try clear hq) | (with_reducible refine Owe.mk ?_ ?_); (first | omega | (unfold most; omega) | decide +kernel | assumption | (simp [most]; done) | (simp [most]; omega)) | (with_reducible intro z hz); first | (replace hz := hz (by omega); subst hz) | subst hz)); try (conv => whnf)
  exact hfin _ (Weak.slots 4 (by first | omega | (rw [h0]; exact Nat.le_of_ble_eq_true rfl)) rfl rfl (by first | rfl | (simp only [List.all_cons, List.all_nil, blkBelow, belowL_imm, belowL, belowB, Bool.and_true, Bool.true_and]; first | done | decide) | simp [blkBelow, belowB, belowL, belowL_imm]) (by repeat (first | exact Wk.nil | refine Wk.drop16 ?_ | refine Wk.drop4 ?_ | refine Wk.drop ?_ | refine Wk.eq (by with_reducible rfl) rfl ?_ | refine Wk.eq (congrArg (fun z => PV.imm (IV.int IntKind.i64 z)) (by first | omega | (simp; done) | (simp; omega))) rfl ?_ | refine Wk.eq rfl rfl ?_)))
theorem execset_pcb (s : Sto) (hc : in64 s.c) (h : s.c ≠ 0) (p : Int) : PCB Try.prog envU 30 [.ptr 0 1 0, .clo 32 [.ptr 1 1 0, .ptr 2 1 0]] [.box 1 [.row 3 1, .imm (.int .i64 s.d), .imm (.int .i64 s.r), .imm (.int .i64 s.c), .imm (.bool s.off)], .box 1 [.imm (.int .i64 p)], .box 1 [.ptr 0 1 0], .row 9 1 1 ((sv s.L).map .imm)] [.imm (.int .i64 0)]
    [.box 1 [.row 3 1, .imm (.int .i64 (s.L.length : Nat)), .imm (.int .i64 p), .imm (.int .i64 (dec s.c)), .imm (.bool s.off)], .box 1 [.imm (.int .i64 p)], .box 1 [.ptr 0 1 0], .row 9 1 1 ((sv s.L).map .imm)] := by
  have hb := setbody_pcb ⟨s.L, s.d, s.r, dec s.c, s.off⟩ p
  unfold in64 at hc
  by_cases h1 : 0 < s.c
  · have hd : dec s.c = s.c - 1 := by simp [dec, h1]
    rw [hd] at hb ⊢
    refine PCB.of_vc (T := tb0) eqs_ok tb_ok rfl mixed Try.func30 rfl rfl rfl ?_; intro Γ C WK LP fin h0 hk0 hW hC hB hR hLP hfin
    (repeat ((conv => whnf); first | (with_reducible refine Fork.mk (fun hq => ?_) (fun hc => ?_)); rotate_left; (exfalso; first | omega | (simp [eqC, cellsI, idv, idl] at hc; done) | (simp [eqC, cellsI, idv, idl] at hc; omega) | contradiction); (try clear hq) | (with_reducible refine Fork.mk (fun hc => ?_) (fun hq => ?_)); (exfalso; first | omega | (simp [eqC, cellsI, idv, idl] at hc; done) | (simp [eqC, cellsI, idv, idl] at hc; omega) | contradiction); (try clear hq) | (with_reducible refine Owe.mk ?_ ?_); (first | omega | (unfold most; omega) | decide +kernel | assumption | (simp [most]; done) | (simp [most]; omega)) | (with_reducible intro z hz); first | (replace hz := hz (by omega); subst hz) | subst hz)); try (conv => whnf)
    refine Imms.mk (sv s.L) rfl ?_
    (repeat ((conv => whnf); first | (with_reducible refine Fork.mk (fun hq => ?_) (fun hc => ?_)); rotate_left; (exfalso; first | omega | (simp [eqC, cellsI, idv, idl] at hc; done) | (simp [eqC, cellsI, idv, idl] at hc; omega) | contradiction); (try clear hq) | (with_reducible refine Fork.mk (fun hc => ?_) (fun hq => ?_)); (exfalso; first | omega | (simp [eqC, cellsI, idv, idl] at hc; done) | (simp [eqC, cellsI, idv, idl] at hc; omega) | contradiction); (try clear hq) | (with_reducible refine Owe.mk ?_ ?_); (first | omega | (unfold most; omega) | decide +kernel | assumption | (simp [most]; done) | (simp [most]; omega)) | (with_reducible intro z hz); first | (replace hz := hz (by omega); subst hz) | subst hz)); try (conv => whnf)
    refine CallB.mk ([]) ([.box 1 [.imm (.int .i64 p)], .box 1 [.ptr 2 1 0], .box 1 [.row 3 1, .imm (.int .i64 (s.L.length : Nat)), .imm (.int .i64 p), .imm (.int .i64 (s.c - 1)), .imm (.bool s.off)], .row 9 1 1 (sv s.L)]) (hB _ _ _ _ _ (hb)) ?_
    (repeat ((conv => whnf); first | (with_reducible refine Fork.mk (fun hq => ?_) (fun hc => ?_)); rotate_left; (exfalso; first | omega | (simp [eqC, cellsI, idv, idl] at hc; done) | (simp [eqC, cellsI, idv, idl] at hc; omega) | contradiction); (try clear hq) | (with_reducible refine Fork.mk (fun hc => ?_) (fun hq => ?_)); (exfalso; first | omega | (simp [eqC, cellsI, idv, idl] at hc; done) | (simp [eqC, cellsI, idv, idl] at hc; omega) | contradiction); (try clear hq) | (with_reducible refine Owe.mk ?_ ?_); (first | omega | (unfold most; omega) | decide +kernel | assumption | (simp [most]; done) | (simp [most]; omega)) | (with_reducible intro z hz); first | (replace hz := hz (by omega); subst hz) | subst hz)); try (conv => whnf)
    exact hfin _ (Weak.slots 4 (by first | omega | (rw [h0]; exact Nat.le_of_ble_eq_true rfl)) rfl rfl (by first | rfl | (simp only [List.all_cons, List.all_nil, blkBelow, belowL_imm, belowL, belowB, Bool.and_true, Bool.true_and]; first | done | decide) | simp [blkBelow, belowB, belowL, belowL_imm]) (by repeat (first | exact Wk.nil | refine Wk.drop16 ?_ | refine Wk.drop4 ?_ | refine Wk.drop ?_ | refine Wk.eq (by with_reducible rfl) rfl ?_ | refine Wk.eq (congrArg (fun z => PV.imm (IV.int IntKind.i64 z)) (by first | omega | (simp; done) | (simp; omega))) rfl ?_ | refine Wk.eq rfl rfl ?_)))
  · have hd : dec s.c = s.c := by simp [dec, h1]
    rw [hd] at hb ⊢
    refine PCB.of_vc (T := tb0) eqs_ok tb_ok rfl mixed Try.func30 rfl rfl rfl ?_; intro Γ C WK LP fin h0 hk0 hW hC hB hR hLP hfin
    (repeat ((conv => whnf); first | (with_reducible refine Fork.mk (fun hq => ?_) (fun hc => ?_)); rotate_left; (exfalso; first | omega | (simp [eqC, cellsI, idv, idl] at hc; done) | (simp [eqC, cellsI, idv, idl] at hc; omega) | contradiction); (try clear hq) | (with_reducible refine Fork.mk (fun hc => ?_) (fun hq => ?_)); (exfalso; first | omega | (simp [eqC, cellsI, idv, idl] at hc; done) | (simp [eqC, cellsI, idv, idl] at hc; omega) | contradiction); (try clear hq) | (with_reducible refine Owe.mk ?_ ?_); (first | omega | (unfold most; omega) | decide +kernel | assumption | (simp [most]; done) | (simp [most]; omega)) | (with_reducible intro z hz); first | (replace hz := hz (by omega); subst hz) | subst hz)); try (conv => whnf)
    refine Imms.mk (sv s.L) rfl ?_
    (repeat ((conv => whnf); first | (with_reducible refine Fork.mk (fun hq => ?_) (fun hc => ?_)); rotate_left; (exfalso; first | omega | (simp [eqC, cellsI, idv, idl] at hc; done) | (simp [eqC, cellsI, idv, idl] at hc; omega) | contradiction); (try clear hq) | (with_reducible refine Fork.mk (fun hc => ?_) (fun hq => ?_)); (exfalso; first | omega | (simp [eqC, cellsI, idv, idl] at hc; done) | (simp [eqC, cellsI, idv, idl] at hc; omega) | contradiction); (try clear hq) | (with_reducible refine Owe.mk ?_ ?_); (first | omega | (unfold most; omega) | decide +kernel | assumption | (simp [most]; done) | (simp [most]; omega)) | (with_reducible intro z hz); first | (replace hz := hz (by omega); subst hz) | subst hz)); try (conv => whnf)
    refine CallB.mk ([]) ([.box 1 [.imm (.int .i64 p)], .box 1 [.ptr 2 1 0], .box 1 [.row 3 1, .imm (.int .i64 (s.L.length : Nat)), .imm (.int .i64 p), .imm (.int .i64 s.c), .imm (.bool s.off)], .row 9 1 1 (sv s.L)]) (hB _ _ _ _ _ (hb)) ?_
    (repeat ((conv => whnf); first | (with_reducible refine Fork.mk (fun hq => ?_) (fun hc => ?_)); rotate_left; (exfalso; first | omega | (simp [eqC, cellsI, idv, idl] at hc; done) | (simp [eqC, cellsI, idv, idl] at hc; omega) | contradiction); (try clear hq) | (with_reducible refine Fork.mk (fun hc => ?_) (fun hq => ?_)); (exfalso; first | omega | (simp [eqC, cellsI, idv, idl] at hc; done) | (simp [eqC, cellsI, idv, idl] at hc; omega) | contradiction); (try clear hq) | (with_reducible refine Owe.mk ?_ ?_); (first | omega | (unfold most; omega) | decide +kernel | assumption | (simp [most]; done) | (simp [most]; omega)) | (with_reducible intro z hz); first | (replace hz := hz (by omega); subst hz) | subst hz)); try (conv => whnf)
    exact hfin _ (Weak.slots 4 (by first | omega | (rw [h0]; exact Nat.le_of_ble_eq_true rfl)) rfl rfl (by first | rfl | (simp only [List.all_cons, List.all_nil, blkBelow, belowL_imm, belowL, belowB, Bool.and_true, Bool.true_and]; first | done | decide) | simp [blkBelow, belowB, belowL, belowL_imm]) (by repeat (first | exact Wk.nil | refine Wk.drop16 ?_ | refine Wk.drop4 ?_ | refine Wk.drop ?_ | refine Wk.eq (by with_reducible rfl) rfl ?_ | refine Wk.eq (congrArg (fun z => PV.imm (IV.int IntKind.i64 z)) (by first | omega | (simp; done) | (simp; omega))) rfl ?_ | refine Wk.eq rfl rfl ?_)))
theorem setroot_pcb (s : Sto) (hc : in64 s.c) (p : Int) : PCB Try.prog envU 20 [.ptr 0 1 0, .imm (.int .i64 p)] [.box 1 [.row 1 1, .imm (.int .i64 s.d), .imm (.int .i64 s.r), .imm (.int .i64 s.c), .imm (.bool s.off)], .row 9 1 1 ((sv s.L).map .imm)] [.imm (.int .i64 (setR s p).2)] [.box 1 [.row 1 1, .imm (.int .i64 (setR s p).1.d), .imm (.int .i64 (setR s p).1.r), .imm (.int .i64 (setR s p).1.c), .imm (.bool (setR s p).1.off)], .row 9 1 1 ((sv (setR s p).1.L).map .imm)] := by
  have hP := perr_pcb s p
  rcases perr_cases s p with ⟨h1, h2, h3, h4⟩ | ⟨h1, h2⟩ | ⟨h1, h2, h3⟩
  · rw [h1] at hP
    have hn : ¬ (p < 0 ∨ (s.L.length : Int) ≤ p) := by omega
    by_cases h5 : s.c = 0
    · have hX := execset_off s h5 32 p
      rw [show setR s p = (⟨s.L, s.d, s.r, s.c, true⟩, 16) by simp [setR, h2, hn, h5]]
      dsimp only
      refine PCB.of_vc (T := tb0) eqs_ok tb_ok rfl mixed Try.func20 rfl rfl rfl ?_; intro Γ C WK LP fin h0 hk0 hW hC hB hR hLP hfin
      (repeat ((conv => whnf); first | (with_reducible refine Fork.mk (fun hq => ?_) (fun hc => ?_)); rotate_left; (exfalso; first | omega | (simp [eqC, cellsI, idv, idl] at hc; done) | (simp [eqC, cellsI, idv, idl] at hc; omega) | contradiction); (try clear hq) | (with_reducible refine Fork.mk (fun hc => ?_) (fun hq => ?_)); (exfalso; first | omega | (simp [eqC, cellsI, idv, idl] at hc; done) | (simp [eqC, cellsI, idv, idl] at hc; omega) | contradiction); (try clear hq) | (with_reducible refine Owe.mk ?_ ?_); (first | omega | (unfold most; omega) | decide +kernel | assumption | (simp [most]; done) | (simp [most]; omega)) | (with_reducible intro z hz); first | (replace hz := hz (by omega); subst hz) | subst hz)); try (conv => whnf)
      refine Imms.mk (sv s.L) rfl ?_
      (repeat ((conv => whnf); first | (with_reducible refine Fork.mk (fun hq => ?_) (fun hc => ?_)); rotate_left; (exfalso; first | omega | (simp [eqC, cellsI, idv, idl] at hc; done) | (simp [eqC, cellsI, idv, idl] at hc; omega) | contradiction); (try clear hq) | (with_reducible refine Fork.mk (fun hc => ?_) (fun hq => ?_)); (exfalso; first | omega | (simp [eqC, cellsI, idv, idl] at hc; done) | (simp [eqC, cellsI, idv, idl] at hc; omega) | contradiction); (try clear hq) | (with_reducible refine Owe.mk ?_ ?_); (first | omega | (unfold most; omega) | decide +kernel | assumption | (simp [most]; done) | (simp [most]; omega)) | (with_reducible intro z hz); first | (replace hz := hz (by omega); subst hz) | subst hz)); try (conv => whnf)
      refine CallB.mk ([.imm (.int .i64 0)]) ([.box 1 [.row 1 1, .imm (.int .i64 s.d), .imm (.int .i64 s.r), .imm (.int .i64 s.c), .imm (.bool s.off)], .row 9 1 1 (sv s.L)]) (hB _ _ _ _ _ (hP)) ?_
      (repeat ((conv => whnf); first | (with_reducible refine Fork.mk (fun hq => ?_) (fun hc => ?_)); rotate_left; (exfalso; first | omega | (simp [eqC, cellsI, idv, idl] at hc; done) | (simp [eqC, cellsI, idv, idl] at hc; omega) | contradiction); (try clear hq) | (with_reducible refine Fork.mk (fun hc => ?_) (fun hq => ?_)); (exfalso; first | omega | (simp [eqC, cellsI, idv, idl] at hc; done) | (simp [eqC, cellsI, idv, idl] at hc; omega) | contradiction); (try clear hq) | (with_reducible refine Owe.mk ?_ ?_); (first | omega | (unfold most; omega) | decide +kernel | assumption | (simp [most]; done) | (simp [most]; omega)) | (with_reducible intro z hz); first | (replace hz := hz (by omega); subst hz) | subst hz)); try (conv => whnf)
      refine Imms.mk (sv s.L) rfl ?_
      (repeat ((conv => whnf); first | (with_reducible refine Fork.mk (fun hq => ?_) (fun hc => ?_)); rotate_left; (exfalso; first | omega | (simp [eqC, cellsI, idv, idl] at hc; done) | (simp [eqC, cellsI, idv, idl] at hc; omega) | contradiction); (try clear hq) | (with_reducible refine Fork.mk (fun hc => ?_) (fun hq => ?_)); (exfalso; first | omega | (simp [eqC, cellsI, idv, idl] at hc; done) | (simp [eqC, cellsI, idv, idl] at hc; omega) | contradiction); (try clear hq) | (with_reducible refine Owe.mk ?_ ?_); (first | omega | (unfold most; omega) | decide +kernel | assumption | (simp [most]; done) | (simp [most]; omega)) | (with_reducible intro z hz); first | (replace hz := hz (by omega); subst hz) | subst hz)); try (conv => whnf)
      refine CallB.mk ([.imm (.int .i64 16)]) ([.box 1 [.row 3 1, .imm (.int .i64 s.d), .imm (.int .i64 s.r), .imm (.int .i64 s.c), .imm (.bool true)], .box 1 [.imm (.int .i64 p)], .box 1 [.ptr 0 1 0], .row 9 1 1 (sv s.L)]) (hB _ _ _ _ _ (hX)) ?_
      (repeat ((conv => whnf); first | (with_reducible refine Fork.mk (fun hq => ?_) (fun hc => ?_)); rotate_left; (exfalso; first | omega | (simp [eqC, cellsI, idv, idl] at hc; done) | (simp [eqC, cellsI, idv, idl] at hc; omega) | contradiction); (try clear hq) | (with_reducible refine Fork.mk (fun hc => ?_) (fun hq => ?_)); (exfalso; first | omega | (simp [eqC, cellsI, idv, idl] at hc; done) | (simp [eqC, cellsI, idv, idl] at hc; omega) | contradiction); (try clear hq) | (with_reducible refine Owe.mk ?_ ?_); (first | omega | (unfold most; omega) | decide +kernel | assumption | (simp [most]; done) | (simp [most]; omega)) | (with_reducible intro z hz); first | (replace hz := hz (by omega); subst hz) | subst hz)); try (conv => whnf)
      exact hfin _ (Weak.slots 2 (by first | omega | (rw [h0]; exact Nat.le_of_ble_eq_true rfl)) rfl rfl (by first | rfl | (simp only [List.all_cons, List.all_nil, blkBelow, belowL_imm, belowL, belowB, Bool.and_true, Bool.true_and]; first | done | decide) | simp [blkBelow, belowB, belowL, belowL_imm]) (by repeat (first | exact Wk.nil | refine Wk.drop16 ?_ | refine Wk.drop4 ?_ | refine Wk.drop ?_ | refine Wk.eq (by with_reducible rfl) rfl ?_ | refine Wk.eq (congrArg (fun z => PV.imm (IV.int IntKind.i64 z)) (by first | omega | (simp; done) | (simp; omega))) rfl ?_ | refine Wk.eq rfl rfl ?_)))
    · have hX := execset_pcb s hc h5 p
      rw [show setR s p = (⟨s.L, (s.L.length : Nat), p, dec s.c, s.off⟩, 0) by simp [setR, h2, hn, h5]]
      dsimp only
      refine PCB.of_vc (T := tb0) eqs_ok tb_ok rfl mixed Try.func20 rfl rfl rfl ?_; intro Γ C WK LP fin h0 hk0 hW hC hB hR hLP hfin
      (repeat ((conv => whnf); first | (with_reducible refine Fork.mk (fun hq => ?_) (fun hc => ?_)); rotate_left; (exfalso; first | omega | (simp [eqC, cellsI, idv, idl] at hc; done) | (simp [eqC, cellsI, idv, idl] at hc; omega) | contradiction); (try clear hq) | (with_reducible refine Fork.mk (fun hc => ?_) (fun hq => ?_)); (exfalso; first | omega | (simp [eqC, cellsI, idv, idl] at hc; done) | (simp [eqC, cellsI, idv, idl] at hc; omega) | contradiction); (try clear hq) | (with_reducible refine Owe.mk ?_ ?_); (first | omega | (unfold most; omega) | decide +kernel | assumption | (simp [most]; done) | (simp [most]; omega)) | (with_reducible intro z hz); first | (replace hz := hz (by omega); subst hz) | subst hz)); try (conv => whnf)
      refine Imms.mk (sv s.L) rfl ?_
      (repeat ((conv => whnf); first | (with_reducible refine Fork.mk (fun hq => ?_) (fun hc => ?_)); rotate_left; (exfalso; first | omega | (simp [eqC, cellsI, idv, idl] at hc; done) | (simp [eqC, cellsI, idv, idl] at hc; omega) | contradiction); (try clear hq) | (with_reducible refine Fork.mk (fun hc => ?_) (fun hq => ?_)); (exfalso; first | omega | (simp [eqC, cellsI, idv, idl] at hc; done) | (simp [eqC, cellsI, idv, idl] at hc; omega) | contradiction); (try clear hq) | (with_reducible refine Owe.mk ?_ ?_); (first | omega | (unfold most; omega) | decide +kernel | assumption | (simp [most]; done) | (simp [most]; omega)) | (with_reducible intro z hz); first | (replace hz := hz (by omega); subst hz) | subst hz)); try (conv => whnf)
      refine CallB.mk ([.imm (.int .i64 0)]) ([.box 1 [.row 1 1, .imm (.int .i64 s.d), .imm (.int .i64 s.r), .imm (.int .i64 s.c), .imm (.bool s.off)], .row 9 1 1 (sv s.L)]) (hB _ _ _ _ _ (hP)) ?_
      (repeat ((conv => whnf); first | (with_reducible refine Fork.mk (fun hq => ?_) (fun hc => ?_)); rotate_left; (exfalso; first | omega | (simp [eqC, cellsI, idv, idl] at hc; done) | (simp [eqC, cellsI, idv, idl] at hc; omega) | contradiction); (try clear hq) | (with_reducible refine Fork.mk (fun hc => ?_) (fun hq => ?_)); (exfalso; first | omega | (simp [eqC, cellsI, idv, idl] at hc; done) | (simp [eqC, cellsI, idv, idl] at hc; omega) | contradiction); (try clear hq) | (with_reducible refine Owe.mk ?_ ?_); (first | omega | (unfold most; omega) | decide +kernel | assumption | (simp [most]; done) | (simp [most]; omega)) | (with_reducible intro z hz); first | (replace hz := hz (by omega); subst hz) | subst hz)); try (conv => whnf)
      refine Imms.mk (sv s.L) rfl ?_
      (repeat ((conv => whnf); first | (with_reducible refine Fork.mk (fun hq => ?_) (fun hc => ?_)); rotate_left; (exfalso; first | omega | (simp [eqC, cellsI, idv, idl] at hc; done) | (simp [eqC, cellsI, idv, idl] at hc; omega) | contradiction); (try clear hq) | (with_reducible refine Fork.mk (fun hc => ?_) (fun hq => ?_)); (exfalso; first | omega | (simp [eqC, cellsI, idv, idl] at hc; done) | (simp [eqC, cellsI, idv, idl] at hc; omega) | contradiction); (try clear hq) | (with_reducible refine Owe.mk ?_ ?_); (first | omega | (unfold most; omega) | decide +kernel | assumption | (simp [most]; done) | (simp [most]; omega)) | (with_reducible intro z hz); first | (replace hz := hz (by omega); subst hz) | subst hz)); try (conv => whnf)
      refine CallB.mk ([.imm (.int .i64 0)]) ([.box 1 [.row 3 1, .imm (.int .i64 (s.L.length : Nat)), .imm (.int .i64 p), .imm (.int .i64 (dec s.c)), .imm (.bool s.off)], .box 1 [.imm (.int .i64 p)], .box 1 [.ptr 0 1 0], .row 9 1 1 (sv s.L)]) (hB _ _ _ _ _ (hX)) ?_
      (repeat ((conv => whnf); first | (with_reducible refine Fork.mk (fun hq => ?_) (fun hc => ?_)); rotate_left; (exfalso; first | omega | (simp [eqC, cellsI, idv, idl] at hc; done) | (simp [eqC, cellsI, idv, idl] at hc; omega) | contradiction); (try clear hq) | (with_reducible refine Fork.mk (fun hc => ?_) (fun hq => ?_)); (exfalso; first | omega | (simp [eqC, cellsI, idv, idl] at hc; done) | (simp [eqC, cellsI, idv, idl] at hc; omega) | contradiction); (try clear hq) | (with_reducible refine Owe.mk ?_ ?_); (first | omega | (unfold most; omega) | decide +kernel | assumption | (simp [most]; done) | (simp [most]; omega)) | (with_reducible intro z hz); first | (replace hz := hz (by omega); subst hz) | subst hz)); try (conv => whnf)
      exact hfin _ (Weak.slots 2 (by first | omega | (rw [h0]; exact Nat.le_of_ble_eq_true rfl)) rfl rfl (by first | rfl | (simp only [List.all_cons, List.all_nil, blkBelow, belowL_imm, belowL, belowB, Bool.and_true, Bool.true_and]; first | done | decide) | simp [blkBelow, belowB, belowL, belowL_imm]) (by repeat (first | exact Wk.nil | refine Wk.drop16 ?_ | refine Wk.drop4 ?_ | refine Wk.drop ?_ | refine Wk.eq (by with_reducible rfl) rfl ?_ | refine Wk.eq (congrArg (fun z => PV.imm (IV.int IntKind.i64 z)) (by first | omega | (simp; done) | (simp; omega))) rfl ?_ | refine Wk.eq rfl rfl ?_)))
  · rw [h1] at hP
    rw [show setR s p = (s, 16) by simp [setR, h2]]
    dsimp only
    refine PCB.of_vc (T := tb0) eqs_ok tb_ok rfl mixed Try.func20 rfl rfl rfl ?_; intro Γ C WK LP fin h0 hk0 hW hC hB hR hLP hfin
    (repeat ((conv => whnf); first | (with_reducible refine Fork.mk (fun hq => ?_) (fun hc => ?_)); rotate_left; (exfalso; first | omega | (simp [eqC, cellsI, idv, idl] at hc; done) | (simp [eqC, cellsI, idv, idl] at hc; omega) | contradiction); (try clear hq) | (with_reducible refine Fork.mk (fun hc => ?_) (fun hq => ?_)); (exfalso; first | omega | (simp [eqC, cellsI, idv, idl] at hc; done) | (simp [eqC, cellsI, idv, idl] at hc; omega) | contradiction); (try clear hq) | (with_reducible refine Owe.mk ?_ ?_); (first | omega | (unfold most; omega) | decide +kernel | assumption | (simp [most]; done) | (simp [most]; omega)) | (with_reducible intro z hz); first | (replace hz := hz (by omega); subst hz) | subst hz)); try (conv => whnf)
    refine Imms.mk (sv s.L) rfl ?_
    (repeat ((conv => whnf); first | (with_reducible refine Fork.mk (fun hq => ?_) (fun hc => ?_)); rotate_left; (exfalso; first | omega | (simp [eqC, cellsI, idv, idl] at hc; done) | (simp [eqC, cellsI, idv, idl] at hc; omega) | contradiction); (try clear hq) | (with_reducible refine Fork.mk (fun hc => ?_) (fun hq => ?_)); (exfalso; first | omega | (simp [eqC, cellsI, idv, idl] at hc; done) | (simp [eqC, cellsI, idv, idl] at hc; omega) | contradiction); (try clear hq) | (with_reducible refine Owe.mk ?_ ?_); (first | omega | (unfold most; omega) | decide +kernel | assumption | (simp [most]; done) | (simp [most]; omega)) | (with_reducible intro z hz); first | (replace hz := hz (by omega); subst hz) | subst hz)); try (conv => whnf)
    refine CallB.mk ([.imm (.int .i64 16)]) ([.box 1 [.row 1 1, .imm (.int .i64 s.d), .imm (.int .i64 s.r), .imm (.int .i64 s.c), .imm (.bool s.off)], .row 9 1 1 (sv s.L)]) (hB _ _ _ _ _ (hP)) ?_
    (repeat ((conv => whnf); first | (with_reducible refine Fork.mk (fun hq => ?_) (fun hc => ?_)); rotate_left; (exfalso; first | omega | (simp [eqC, cellsI, idv, idl] at hc; done) | (simp [eqC, cellsI, idv, idl] at hc; omega) | contradiction); (try clear hq) | (with_reducible refine Fork.mk (fun hc => ?_) (fun hq => ?_)); (exfalso; first | omega | (simp [eqC, cellsI, idv, idl] at hc; done) | (simp [eqC, cellsI, idv, idl] at hc; omega) | contradiction); (try clear hq) | (with_reducible refine Owe.mk ?_ ?_); (first | omega | (unfold most; omega) | decide +kernel | assumption | (simp [most]; done) | (simp [most]; omega)) | (with_reducible intro z hz); first | (replace hz := hz (by omega); subst hz) | subst hz)); try (conv => whnf)
    exact hfin _ (Weak.slots 2 (by first | omega | (rw [h0]; exact Nat.le_of_ble_eq_true rfl)) rfl rfl (by first | rfl | (simp only [List.all_cons, List.all_nil, blkBelow, belowL_imm, belowL, belowB, Bool.and_true, Bool.true_and]; first | done | decide) | simp [blkBelow, belowB, belowL, belowL_imm]) (by repeat (first | exact Wk.nil | refine Wk.drop16 ?_ | refine Wk.drop4 ?_ | refine Wk.drop ?_ | refine Wk.eq (by with_reducible rfl) rfl ?_ | refine Wk.eq (congrArg (fun z => PV.imm (IV.int IntKind.i64 z)) (by first | omega | (simp; done) | (simp; omega))) rfl ?_ | refine Wk.eq rfl rfl ?_)))
  · rw [h1] at hP
    rw [show setR s p = (s, 3) by simp [setR, h2, h3]]
    dsimp only
    refine PCB.of_vc (T := tb0) eqs_ok tb_ok rfl mixed Try.func20 rfl rfl rfl ?_; intro Γ C WK LP fin h0 hk0 hW hC hB hR hLP hfin
    (repeat ((conv => whnf); first | (with_reducible refine Fork.mk (fun hq => ?_) (fun hc => ?_)); rotate_left; (exfalso; first | omega | (simp [eqC, cellsI, idv, idl] at hc; done) | (simp [eqC, cellsI, idv, idl] at hc; omega) | contradiction); (try clear hq) | (with_reducible refine Fork.mk (fun hc => ?_) (fun hq => ?_)); (exfalso; first | omega | (simp [eqC, cellsI, idv, idl] at hc; done) | (simp [eqC, cellsI, idv, idl] at hc; omega) | contradiction); (try clear hq) | (with_reducible refine Owe.mk ?_ ?_); (first | omega | (unfold most; omega) | decide +kernel | assumption | (simp [most]; done) | (simp [most]; omega)) | (with_reducible intro z hz); first | (replace hz := hz (by omega); subst hz) | subst hz)); try (conv => whnf)
    refine Imms.mk (sv s.L) rfl ?_
    (repeat ((conv => whnf); first | (with_reducible refine Fork.mk (fun hq => ?_) (fun hc => ?_)); rotate_left; (exfalso; first | omega | (simp [eqC, cellsI, idv, idl] at hc; done) | (simp [eqC, cellsI, idv, idl] at hc; omega) | contradiction); (try clear hq) | (with_reducible refine Fork.mk (fun hc => ?_) (fun hq => ?_)); (exfalso; first | omega | (simp [eqC, cellsI, idv, idl] at hc; done) | (simp [eqC, cellsI, idv, idl] at hc; omega) | contradiction); (try clear hq) | (with_reducible refine Owe.mk ?_ ?_); (first | omega | (unfold most; omega) | decide +kernel | assumption | (simp [most]; done) | (simp [most]; omega)) | (with_reducible intro z hz); first | (replace hz := hz (by omega); subst hz) | subst hz)); try (conv => whnf)
    refine CallB.mk ([.imm (.int .i64 3)]) ([.box 1 [.row 1 1, .imm (.int .i64 s.d), .imm (.int .i64 s.r), .imm (.int .i64 s.c), .imm (.bool s.off)], .row 9 1 1 (sv s.L)]) (hB _ _ _ _ _ (hP)) ?_
    (repeat ((conv => whnf); first | (with_reducible refine Fork.mk (fun hq => ?_) (fun hc => ?_)); rotate_left; (exfalso; first | omega | (simp [eqC, cellsI, idv, idl] at hc; done) | (simp [eqC, cellsI, idv, idl] at hc; omega) | contradiction); (try clear hq) | (with_reducible refine Fork.mk (fun hc => ?_) (fun hq => ?_)); (exfalso; first | omega | (simp [eqC, cellsI, idv, idl] at hc; done) | (simp [eqC, cellsI, idv, idl] at hc; omega) | contradiction); (try clear hq) | (with_reducible refine Owe.mk ?_ ?_); (first | omega | (unfold most; omega) | decide +kernel | assumption | (simp [most]; done) | (simp [most]; omega)) | (with_reducible intro z hz); first | (replace hz := hz (by omega); subst hz) | subst hz)); try (conv => whnf)
    exact hfin _ (Weak.slots 2 (by first | omega | (rw [h0]; exact Nat.le_of_ble_eq_true rfl)) rfl rfl (by first | rfl | (simp only [List.all_cons, List.all_nil, blkBelow, belowL_imm, belowL, belowB, Bool.and_true, Bool.true_and]; first | done | decide) | simp [blkBelow, belowB, belowL, belowL_imm]) (by repeat (first | exact Wk.nil | refine Wk.drop16 ?_ | refine Wk.drop4 ?_ | refine Wk.drop ?_ | refine Wk.eq (by with_reducible rfl) rfl ?_ | refine Wk.eq (congrArg (fun z => PV.imm (IV.int IntKind.i64 z)) (by first | omega | (simp; done) | (simp; omega))) rfl ?_ | refine Wk.eq rfl rfl ?_)))
end Go.Proofs.Ytmaapgbplbhlfaa.Pu
