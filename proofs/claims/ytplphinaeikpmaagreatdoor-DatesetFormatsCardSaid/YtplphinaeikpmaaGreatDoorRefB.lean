/-
  The reference's sorted insertion and its points.
-/
import Derived.Test.YtplphinaeikpmaaGreatDoorRefA
import Derived.Deep.RegionHeld3
import Derived.Deep.AppendLies
namespace Go.Proofs.YtplphinaeikpmaaGreatDoor
open Go.RowKit (wrap32 wrap64 intOf Hid Below)
open Spans

/-- Insertion into a sorted list unless already present. -/
def putP : List Int → Int → List Int
  | [], n => [n]
  | x :: r, n => if x < n then x :: putP r n else if x = n then x :: r else n :: x :: r
theorem putP_eq : ∀ (zs : List Int) (n : Int) (k : Nat), k ≤ zs.length → (∀ j, j < k → el zs j < n) → (k < zs.length → ¬ el zs k < n) →
    putP zs n = if k < zs.length ∧ el zs k = n then zs else zs.take k ++ n :: zs.drop k
  | [], n, k, hk, _, _ => by
    obtain rfl : k = 0 := by simpa using hk
    simp [putP]
  | x :: r, n, 0, _, _, h => by
    have h0 : ¬ x < n := h (by simp)
    have e0 : el (x :: r) 0 = x := rfl
    rw [putP, if_neg h0, e0]
    by_cases hx : x = n
    · rw [if_pos hx, if_pos ⟨by simp, hx⟩]
    · rw [if_neg hx, if_neg (by simp [hx])]
      rfl
  | x :: r, n, k + 1, hk, hj, h => by
    have h0 : x < n := hj 0 (by omega)
    have ih := putP_eq r n k (by simpa using hk) (fun j hjk => hj (j + 1) (by omega)) (fun hl => h (by simpa using hl))
    have e0 : el (x :: r) (k + 1) = el r k := rfl
    rw [putP, if_pos h0, ih, e0]
    by_cases hx : k < r.length ∧ el r k = n
    · rw [if_pos hx, if_pos ⟨by simpa using hx.1, hx.2⟩]
    · rw [if_neg hx, if_neg (fun hh => hx ⟨by simpa using hh.1, hh.2⟩)]
      rfl
theorem mem_putP : ∀ (zs : List Int) (n x : Int), x ∈ putP zs n ↔ x ∈ zs ∨ x = n
  | [], n, x => by simp [putP]
  | y :: r, n, x => by
    rw [putP]
    by_cases h1 : y < n
    · rw [if_pos h1, List.mem_cons, mem_putP r n x, List.mem_cons, or_assoc]
    · rw [if_neg h1]
      by_cases h2 : y = n
      · subst h2
        rw [if_pos rfl, List.mem_cons]
        constructor
        · exact Or.inl
        · rintro (h | h)
          · exact h
          · exact Or.inl h
      · rw [if_neg h2, List.mem_cons, or_comm]
theorem asc_putP : ∀ (zs : List Int) (n : Int), zs.Pairwise (· < ·) → (putP zs n).Pairwise (· < ·)
  | [], n, _ => by simp [putP]
  | y :: r, n, h => by
    obtain ⟨h1, h2⟩ := List.pairwise_cons.1 h
    rw [putP]
    by_cases c1 : y < n
    · rw [if_pos c1, List.pairwise_cons]
      refine ⟨fun x hx => ?_, asc_putP r n h2⟩
      rcases (mem_putP r n x).1 hx with hx | rfl
      · exact h1 x hx
      · exact c1
    · rw [if_neg c1]
      by_cases c2 : y = n
      · rw [if_pos c2]
        exact h
      · rw [if_neg c2, List.pairwise_cons]
        refine ⟨fun x hx => ?_, h⟩
        rcases List.mem_cons.1 hx with rfl | hx
        · omega
        · have := h1 x hx
          omega
theorem len_putP : ∀ (zs : List Int) (n : Int), zs.length ≤ (putP zs n).length ∧ (putP zs n).length ≤ zs.length + 1 ∧ 0 < (putP zs n).length
  | [], n => by simp [putP]
  | y :: r, n => by
    obtain ⟨h1, h2, h3⟩ := len_putP r n
    rw [putP]
    split
    · simp only [List.length_cons]; omega
    · split <;> simp only [List.length_cons] <;> omega
theorem head_putP (r : List Int) (n : Int) (h : 0 < n) : ∃ r', putP (0 :: r) n = 0 :: r' := ⟨_, by rw [putP, if_pos h]⟩

/-- One more end, where it is a valid day behind day 0. -/
def stepP (zs : List Int) (e : Int) : List Int := if 0 < e ∧ e ≤ 1048576 then putP zs e else zs
def ptsF (zs : List Int) (s : Sp) : List Int := stepP (stepP zs s.1) s.2
/-- The points of a list of spans. -/
def pts (L : List Sp) : List Int := L.foldl ptsF [0]
theorem pts_step (L : List Sp) (k : Nat) (hk : k < L.length) : pts (L.take (k + 1)) = stepP (stepP (pts (L.take k)) (fr L k)) (tu L k) := by
  rw [take_step L k hk]
  simp [pts, ptsF]
/-- What a list of points is. -/
def PtsOk (zs : List Int) : Prop := (∃ r, zs = 0 :: r) ∧ zs.Pairwise (· < ·) ∧ ∀ x ∈ zs, 0 ≤ x ∧ x ≤ 1048576
theorem step_ok {zs : List Int} (h : PtsOk zs) (e : Int) : PtsOk (stepP zs e) ∧ (∀ x ∈ zs, x ∈ stepP zs e) ∧ (0 < e → e ≤ 1048576 → e ∈ stepP zs e) ∧ (stepP zs e).length ≤ zs.length + 1 ∧ 0 < (stepP zs e).length := by
  unfold stepP
  obtain ⟨⟨r, rfl⟩, h2, h3⟩ := h
  by_cases he : 0 < e ∧ e ≤ 1048576
  · rw [if_pos he]
    refine ⟨⟨head_putP r e he.1, asc_putP _ e h2, fun x hx => ?_⟩, fun x hx => (mem_putP _ e x).2 (Or.inl hx), fun _ _ => (mem_putP _ e e).2 (Or.inr rfl), (len_putP _ e).2.1, (len_putP _ e).2.2⟩
    rcases (mem_putP _ e x).1 hx with hx | rfl
    · exact h3 x hx
    · omega
  · rw [if_neg he]
    exact ⟨⟨⟨r, rfl⟩, h2, h3⟩, fun x hx => hx, fun h0 h1 => absurd ⟨h0, h1⟩ he, by omega, by simp⟩
theorem pts_fold : ∀ (L : List Sp) (zs : List Int), PtsOk zs → PtsOk (L.foldl ptsF zs) ∧ (∀ x ∈ zs, x ∈ L.foldl ptsF zs) ∧ (∀ s ∈ L, ∀ e, e = s.1 ∨ e = s.2 → 0 < e → e ≤ 1048576 → e ∈ L.foldl ptsF zs) ∧ (L.foldl ptsF zs).length ≤ zs.length + 2 * L.length
  | [], zs, h => ⟨h, fun _ hx => hx, fun s hs => by simp at hs, by simp⟩
  | s :: r, zs, h => by
    obtain ⟨a1, a2, a3, a4, _⟩ := step_ok h s.1
    obtain ⟨b1, b2, b3, b4, _⟩ := step_ok a1 s.2
    obtain ⟨c1, c2, c3, c4⟩ := pts_fold r (ptsF zs s) b1
    refine ⟨c1, fun x hx => c2 x (b2 x (a2 x hx)), fun t ht e he h0 h1 => ?_, ?_⟩
    · rcases List.mem_cons.1 ht with rfl | ht
      · rcases he with rfl | rfl
        · exact c2 _ (b2 _ (a3 h0 h1))
        · exact c2 _ (b3 h0 h1)
      · exact c3 t ht e he h0 h1
    · have e : (ptsF zs s).length ≤ zs.length + 2 := by unfold ptsF; omega
      simp only [List.foldl_cons, List.length_cons]
      omega
theorem pts_zero : PtsOk [0] := ⟨⟨[], rfl⟩, by simp, fun x hx => by simp at hx; omega⟩
theorem pts_len (L : List Sp) : (pts L).length ≤ 1 + 2 * L.length := (pts_fold L [0] pts_zero).2.2.2
theorem pts_ok (L : List Sp) : PtsOk (pts L) := (pts_fold L [0] pts_zero).1
theorem pts_mem (L : List Sp) {s : Sp} (hs : s ∈ L) {e : Int} (he : e = s.1 ∨ e = s.2) (h0 : 0 < e) (h1 : e ≤ 1048576) : e ∈ pts L := (pts_fold L [0] pts_zero).2.2.1 s hs e he h0 h1

theorem own_empty (w : World) (e : TypeId) (size : Nat) : (w.alloc (.cells #[] e)).ownsRow w.heap.size e size (.slice (some ⟨w.heap.size, 0, none⟩) 0 0) 0 [] :=
  ⟨by simp, Or.inr ⟨w.heap.size, 0, #[], rfl, Nat.le_refl _, (show (w.heap.push _)[w.heap.size]? = _ by simp), Nat.le_refl _, by unfold maxLen; omega, by simp, by simp⟩⟩

/-- An append at a step of a region that draws its order. -/
theorem step_append_own {P : Program} {w : World} {ops : Array Oper} {o : Oper} {a : Act} {K : Act → World → Prop} {Q : Exit → Act → World → Prop} {E : Prop} (hgd : o.guard = none) (s x : Operand) (t : TypeId)
    (ho : o.op = .call { callee := .builtin .append, args := #[s, x], argTypes := #[t, t] })
    (base : Nat) (e : TypeId) (i : TypeInfo) (z : Value) (size bytes : Nat) (ht : P.underlying t = some (.slice e)) (hi : P.info? e = some i) (hz : i.zero = some z)
    (hsize : i.size = size) (hby : i.bytes = bytes) (hzs : z.cells.size = size) (hsz : 0 < size)
    (v : Value) (n : Nat) (xs : List Value) (hs : a.eval s = v) (hown : w.ownsRow base e size v n xs)
    (ao : Option Addr) (m c : Nat) (news : List Value) (hx : a.eval x = .slice ao m c) (hsome : ao.isSome = true) (hl : news.length = m * size) (hnews : ∀ ad, ao = some ad → ∀ j u, news[j]? = some u → w.cell? (ad.add j) = some u) (h1 : ∀ u ∈ news, u.oneCell' = true)
    (h63 : n + m ≤ maxLen) (hbytes : (n + m) * bytes ≤ 140737488355328) (hbase : base ≤ w.heap.size)
    (h : ∀ v' w', w'.ownsRow base e size v' (n + m) (xs ++ news) → w.grownBy w' v.ownBlock → K (a.put o.dst v') w') :
    if Region.wanted o (yielded ops a.tmps) = true then Oper.wp P o a w K Q else E := by
  have hw : Region.wanted o (yielded ops a.tmps) = true := by simp [Region.wanted, hgd]
  rw [if_pos hw]
  cases ao with
  | none => simp at hsome
  | some ad => exact wp_append_own w s x t ho base e i z size bytes ht hi hz hsize hby hzs hsz v n xs hs hown ad m c news hx hl (hnews ad rfl) h1 h63 hbytes hbase fun v' w' h2 h3 _ => h v' w' h2 h3
theorem own_at {W : World} {G base : Nat} {e : TypeId} {size : Nat} (h : W.heap[G]? = some (.cells #[] e (0, 0))) (hb : base ≤ G) : W.ownsRow base e size (.slice (some ⟨G, 0, none⟩) 0 0) 0 [] :=
  ⟨by simp, Or.inr ⟨G, 0, #[], rfl, hb, h, Nat.le_refl _, by unfold maxLen; omega, by simp, by simp⟩⟩
theorem at_new {w : World} {o : Obj} {G : Nat} (h : G = w.heap.size) : (w.alloc o).heap[G]? = some o := h ▸ heap_alloc_new w o
theorem at_old {w : World} {o x : Obj} {k : Nat} (h : w.heap[k]? = some x) : (w.alloc o).heap[k]? = some x := by
  have hk : k < w.heap.size := by
    rcases Nat.lt_or_ge k w.heap.size with h' | h'
    · exact h'
    · rw [Array.getElem?_eq_none h'] at h; cases h
  rw [heap_alloc_old w o hk]
  exact h
theorem icells_one (zs : List Int) : ∀ u ∈ icells zs, u.oneCell' = true := by
  intro u hu
  unfold icells at hu
  obtain ⟨z, _, rfl⟩ := List.mem_map.1 hu
  rfl
/-- The cells of a slice's head. -/
theorem take_news {w W : World} {b off N k : Nat} {zs : List Int} (hS : Below w.heap.size w W) (hC : ∀ k, k < N → w.cell? ⟨b, off + k, none⟩ = some (.int .i64 (el zs k))) (hb : b < w.heap.size) (hl : zs.length = N) (hk : k ≤ N) :
    ∀ ad, (some (⟨b, off, none⟩ : Addr)) = some ad → ∀ j u, (icells (zs.take k))[j]? = some u → W.cell? (ad.add j) = some u := by
  intro ad had j u hj
  cases had
  have hjl : j < k := by
    rcases Nat.lt_or_ge j k with h | h
    · exact h
    · rw [List.getElem?_eq_none (by simp [icells]; omega)] at hj; cases hj
  rw [Go.WideShapes.add_plain]
  rw [hS.cell (p := ⟨b, off + j, none⟩) hb, hC j (by omega), ← hj]
  unfold icells el
  simp [List.getD, hjl, List.getElem?_eq_getElem (show j < zs.length by omega)]
/-- The cells of a slice's rest. -/
theorem drop_news {w W : World} {b off N k ca : Nat} {zs : List Int} (hS : Below w.heap.size w W) (hC : ∀ k, k < N → w.cell? ⟨b, off + k, none⟩ = some (.int .i64 (el zs k))) (hb : b < w.heap.size) (hl : zs.length = N) (hca : N ≤ ca) :
    ∀ ad, (if ca = k then some (⟨b, off, none⟩ : Addr) else some ⟨b, off + k, none⟩) = some ad → ∀ j u, (icells (zs.drop k))[j]? = some u → W.cell? (ad.add j) = some u := by
  intro ad had j u hj
  have hjl : k + j < N := by
    rcases Nat.lt_or_ge (k + j) N with h | h
    · exact h
    · rw [List.getElem?_eq_none (by simp [icells]; omega)] at hj; cases hj
  rw [if_neg (by omega)] at had
  cases had
  rw [Go.WideShapes.add_plain, Nat.add_assoc]
  rw [hS.cell (p := ⟨b, off + (k + j), none⟩) hb, hC (k + j) hjl, ← hj]
  unfold icells el
  simp [List.getD, List.getElem?_eq_getElem (show k + j < zs.length by omega)]
theorem one_news {W : World} {G : Nat} {x : Int} (h : W.cell? ⟨G, 0, none⟩ = some (.int .i64 x)) : ∀ ad, (some (⟨G, 0, none⟩ : Addr)) = some ad → ∀ j u, [Value.int .i64 x][j]? = some u → W.cell? (ad.add j) = some u := by
  intro ad had j u hj
  cases had
  match j, hj with
  | 0, hj => exact h.trans hj
theorem if_some (p : Prop) [Decidable p] (a b : Addr) : (if p then some a else some b).isSome = true := by split <;> rfl
theorem cell_new {w : World} {x : Int} {t : TypeId} {G : Nat} (h : G = w.heap.size) : (w.alloc (.cells #[.int .i64 x] t)).cell? ⟨G, 0, none⟩ = some (.int .i64 x) := by rw [World.cell?_alloc_at _ _ _ _ h]; rfl
theorem cell_old {w : World} {o : Obj} {p : Addr} {u : Value} (h : w.cell? p = some u) : (w.alloc o).cell? p = some u := by rw [World.cell?_alloc_lt _ _ _ (World.block_lt_of_cell? w _ h)]; exact h
theorem cell_grown {w w' : World} {row : Option Nat} {G : Nat} {u : Value} (hg : w.grownBy w' row) (h : w.cell? ⟨G, 0, none⟩ = some u) (hne : some G ≠ row) : w'.cell? ⟨G, 0, none⟩ = some u := by
  rw [World.cell?_of_block (hg.block G (World.block_lt_of_cell? w _ h) hne)]
  exact h
theorem below_drew1 {B : Nat} {a w : World} (h : Below B a w) : Below B a w.drew := ⟨h.os, h.tape, h.output, h.size, h.block⟩
theorem below_alloc1 {a w : World} (h : Below a.heap.size a w) (o : Obj) : Below a.heap.size a (w.alloc o) := h.alloc h.size o
/-- A slice with an address that reads as these integers is handed back. -/
def PutRet (zs : List Int) (e : Ending) (w' : World) : Prop := ∃ (b off n c : Nat), e = .returned (.slice (some ⟨b, off, none⟩) n c) ∧ IntsAt w'.heap.size w' (some ⟨b, off, none⟩) n zs ∧ n ≤ c ∧ 0 < n
theorem put_end {base n : Nat} {v : Value} {xs : List Value} {L : List Int} {w' : World} (h : w'.ownsRow base 3 1 v n xs) (h0 : 0 < n) (hx : icells L = xs) : PutRet L (.returned v) w' := by
  subst hx
  obtain ⟨m, rfl⟩ : ∃ m, n = m + 1 := ⟨n - 1, by omega⟩
  obtain ⟨A2, c2, rfl⟩ := own_slice h
  have hi := ints_of_own h
  have hcap := own_cap h
  obtain ⟨b, off, rfl, _, _⟩ := hi.2 h0
  exact ⟨b, off, m + 1, c2, rfl, hi, hcap, h0⟩
set_option maxHeartbeats 2000000 in
set_option maxRecDepth 100000 in
theorem put_any (zs : List Int) (N ca b off : Nat) (x : Int) (w : World) (hz : IntsAt w.heap.size w (some ⟨b, off, none⟩) N zs) (h0 : 0 < N) (hN : N ≤ 2000000) (hca : N ≤ ca) :
    Calls Tryz.prog 59 #[.slice (some ⟨b, off, none⟩) N ca, .int .i64 x] w fun e w' => PutRet (putP zs x) e w' ∧ Below w.heap.size w w' := by
  obtain ⟨i0, hi, hz0, hz1, hz2⟩ := info_parts info3
  have HL := Lib.hid hz.1
  obtain ⟨b', off', e', hlt', hc'⟩ := hz.2 h0
  injection e' with e'
  injection e' with e1 e2
  subst e1 e2
  have HC : Hid (∀ k, k < N → w.cell? ⟨b, off + k, none⟩ = some (.int .i64 (el zs k))) := Lib.hid hc'
  have HZ := Lib.hid hz
  clear hc' hz
  go_enter Tryz.func59, Tryz.ntmps59
  go_wp2
  go_loop [5] (fun i => ∃ k : Nat, k ≤ N ∧ i = .int .i64 k ∧ ∀ j, j < k → el zs j < x) (fun i => N - (intOf i).toNat)
  case atStart => exact ⟨0, Nat.zero_le _, rfl, fun j hj => absurd hj (by omega)⟩
  case round =>
    obtain ⟨k, hk, rfl, hm⟩ := hrel
    have HM := Lib.hid hm
    clear hm
    by_cases hlt : k < N
    · have hck := HC.out k hlt
      by_cases hx : el zs k < x
      · go_wp2
        go_round
        case rel => exact ⟨k + 1, by omega, by go_num, fun j hj => by
          by_cases h : j = k
          · subst h; exact hx
          · exact HM.out j (by omega)⟩
        case measure => simp [intOf]; omega
      · have HP := Lib.hid (putP_eq zs x k (by have := HL.out; omega) HM.out (fun _ => hx))
        by_cases he : el zs k = x
        · have hbeq : (el zs k == x) = true := by rw [beq_iff_eq]; exact he
          go_wp2
          go_ret
          refine ⟨⟨b, off, N, ca, rfl, ?_, hca, h0⟩, Below.refl _ _⟩
          rw [HP.out, if_pos ⟨by have := HL.out; omega, he⟩]
          exact HZ.out
        · have hbeq : (el zs k == x) = false := by rw [beq_eq_false_iff_ne]; exact he
          have b0 : (0 : Int) ≤ (k : Int) := Int.natCast_nonneg _
          have b1 : (k : Int) ≤ (ca : Int) := by omega
          have b2 : (k : Int) < (ca : Int) := by omega
          have b3 : (k : Int) ≤ (N : Int) := by omega
          have b4 : ¬ (k = ca) := by omega
          have b5 : ¬ (ca = 0) := by omega
          have b6 : (N : Int) ≤ (ca : Int) := by omega
          go_wp2
          go_region_held3 (fun w' => Below w.heap.size w w') (repeat (first | assumption | exact Below.refl _ _ | apply below_drew1 | apply below_alloc1)) (first
            | ((refine step_append_own (by rfl) _ _ _ (by rfl) w.heap.size 3 i0 (.int .i64 0) 1 8 Tryz.underlying74 hi hz0 hz1 hz2 rfl (by omega) (.slice (some ⟨w.heap.size, 0, none⟩) 0 0) 0 [] (by rfl) (own_at (by first | exact at_new (by simp) | exact at_old (at_new (by simp))) (by omega)) (some ⟨b, off, none⟩) k ca (icells (zs.take k)) (by rfl) rfl (by have := HL.out; simp [icells]; omega) (take_news (by assumption) HC.out hlt' HL.out (by omega)) (icells_one _) (by unfold maxLen; omega) (by omega) (Below.size (by assumption)) ?_; intro v1 w1 hown1 hgrow1; have hS1 : Below w.heap.size w w1 := (Below.grown (by assumption) hgrow1 (Below.size (by assumption)) (fun q hq => by simp [Value.ownBlock] at hq; omega)); (try have hx1 : w1.cell? ⟨w.heap.size + 1, 0, none⟩ = some (.int .i64 x) := cell_grown hgrow1 (by exact cell_new (by simp)) (by simp [Value.ownBlock])); (try have hx0 : w1.cell? ⟨w.heap.size, 0, none⟩ = some (.int .i64 x) := cell_grown hgrow1 (by exact cell_old (cell_new (by simp))) (by simp [Value.ownBlock]))))
            | ((refine step_append_own (by rfl) _ _ _ (by rfl) w.heap.size 3 i0 (.int .i64 0) 1 8 Tryz.underlying74 hi hz0 hz1 hz2 rfl (by omega) (.slice (some ⟨w.heap.size + 1, 0, none⟩) 0 0) 0 [] (by rfl) (own_at (by first | exact at_new (by simp) | exact at_old (at_new (by simp))) (by omega)) (some ⟨b, off, none⟩) k ca (icells (zs.take k)) (by rfl) rfl (by have := HL.out; simp [icells]; omega) (take_news (by assumption) HC.out hlt' HL.out (by omega)) (icells_one _) (by unfold maxLen; omega) (by omega) (Below.size (by assumption)) ?_; intro v1 w1 hown1 hgrow1; have hS1 : Below w.heap.size w w1 := (Below.grown (by assumption) hgrow1 (Below.size (by assumption)) (fun q hq => by simp [Value.ownBlock] at hq; omega)); (try have hx1 : w1.cell? ⟨w.heap.size + 1, 0, none⟩ = some (.int .i64 x) := cell_grown hgrow1 (by exact cell_new (by simp)) (by simp [Value.ownBlock])); (try have hx0 : w1.cell? ⟨w.heap.size, 0, none⟩ = some (.int .i64 x) := cell_grown hgrow1 (by exact cell_old (cell_new (by simp))) (by simp [Value.ownBlock]))))
            | ((refine step_append_own (by rfl) _ _ _ (by rfl) w.heap.size 3 i0 (.int .i64 0) 1 8 Tryz.underlying74 hi hz0 hz1 hz2 rfl (by omega) v1 (0 + k) ([] ++ icells (zs.take k)) (by rfl) (by first | exact hown1 | exact hown1.drew | exact hown1.alloc _ | exact (hown1.alloc _).drew | exact hown1.drew.alloc _ | exact (hown1.drew.alloc _).drew) (some ⟨w1.heap.size, 0, none⟩) 1 1 [.int .i64 x] (by rfl) rfl rfl (one_news (by exact cell_new (by simp))) (by intro u hu; simp at hu; subst hu; rfl) (by unfold maxLen; omega) (by omega) (Below.size (by assumption)) ?_; intro v2 w2 hown2 hgrow2; have hS2 : Below w.heap.size w w2 := (Below.grown (by assumption) hgrow2 (Below.size (by assumption)) (fun q hq => (hown1.lt q hq).1))))
            | ((refine step_append_own (by rfl) _ _ _ (by rfl) w.heap.size 3 i0 (.int .i64 0) 1 8 Tryz.underlying74 hi hz0 hz1 hz2 rfl (by omega) v1 (0 + k) ([] ++ icells (zs.take k)) (by rfl) (by first | exact hown1 | exact hown1.drew | exact hown1.alloc _ | exact (hown1.alloc _).drew | exact hown1.drew.alloc _ | exact (hown1.drew.alloc _).drew) (some ⟨w.heap.size + 1, 0, none⟩) 1 1 [.int .i64 x] (by rfl) rfl rfl (one_news (by exact hx1)) (by intro u hu; simp at hu; subst hu; rfl) (by unfold maxLen; omega) (by omega) (Below.size (by assumption)) ?_; intro v2 w2 hown2 hgrow2; have hS2 : Below w.heap.size w w2 := (Below.grown (by assumption) hgrow2 (Below.size (by assumption)) (fun q hq => (hown1.lt q hq).1))))
            | ((refine step_append_own (by rfl) _ _ _ (by rfl) w.heap.size 3 i0 (.int .i64 0) 1 8 Tryz.underlying74 hi hz0 hz1 hz2 rfl (by omega) v1 (0 + k) ([] ++ icells (zs.take k)) (by rfl) (by first | exact hown1 | exact hown1.drew | exact hown1.alloc _ | exact (hown1.alloc _).drew | exact hown1.drew.alloc _ | exact (hown1.drew.alloc _).drew) (some ⟨w.heap.size, 0, none⟩) 1 1 [.int .i64 x] (by rfl) rfl rfl (one_news (by exact hx0)) (by intro u hu; simp at hu; subst hu; rfl) (by unfold maxLen; omega) (by omega) (Below.size (by assumption)) ?_; intro v2 w2 hown2 hgrow2; have hS2 : Below w.heap.size w w2 := (Below.grown (by assumption) hgrow2 (Below.size (by assumption)) (fun q hq => (hown1.lt q hq).1))))
            | ((refine step_append_own (by rfl) _ _ _ (by rfl) w.heap.size 3 i0 (.int .i64 0) 1 8 Tryz.underlying74 hi hz0 hz1 hz2 rfl (by omega) v2 (0 + k + 1) ([] ++ icells (zs.take k) ++ [.int .i64 x]) (by rfl) (by first | exact hown2 | exact hown2.drew) (if ca = k then some ⟨b, off, none⟩ else some ⟨b, off + k, none⟩) (N - k) (ca - k) (icells (zs.drop k)) (by rfl) (if_some _ _ _) (by have := HL.out; simp [icells]; omega) (drop_news (by assumption) HC.out hlt' HL.out hca) (icells_one _) (by unfold maxLen; omega) (by omega) (Below.size (by assumption)) ?_; intro v3 w3 hown3 hgrow3; have hS3 : Below w.heap.size w w3 := (Below.grown (by assumption) hgrow3 (Below.size (by assumption)) (fun q hq => (hown2.lt q hq).1))))
            | fail)
          all_goals go_wp2
          all_goals
            go_ret
            exact ⟨put_end hown3 (by omega) (by rw [HP.out, if_neg (fun h => absurd h.2 he)]; simp [icells]), hS3⟩
    · have hkN : k = N := by omega
      have HP := Lib.hid (putP_eq zs x k (by have := HL.out; omega) HM.out (fun h => absurd h (by have := HL.out; omega)))
      have b0 : (0 : Int) ≤ (k : Int) := Int.natCast_nonneg _
      have b1 : (k : Int) ≤ (ca : Int) := by omega
      have b3 : (k : Int) ≤ (N : Int) := by omega
      have b5 : ¬ (ca = 0) := by omega
      have b6 : (N : Int) ≤ (ca : Int) := by omega
      have b7 : ¬ ((k : Int) < (N : Int)) := by omega
      have HKN := Lib.hid hkN
      clear hkN hlt
      go_wp2
      go_region_held3 (fun w' => Below w.heap.size w w') (repeat (first | assumption | exact Below.refl _ _ | apply below_drew1 | apply below_alloc1)) (first
        | ((refine step_append_own (by rfl) _ _ _ (by rfl) w.heap.size 3 i0 (.int .i64 0) 1 8 Tryz.underlying74 hi hz0 hz1 hz2 rfl (by omega) (.slice (some ⟨w.heap.size, 0, none⟩) 0 0) 0 [] (by rfl) (own_at (by first | exact at_new (by simp) | exact at_old (at_new (by simp))) (by omega)) (some ⟨b, off, none⟩) k ca (icells (zs.take k)) (by rfl) rfl (by have := HL.out; simp [icells]; omega) (take_news (by assumption) HC.out hlt' HL.out (by omega)) (icells_one _) (by unfold maxLen; omega) (by omega) (Below.size (by assumption)) ?_; intro v1 w1 hown1 hgrow1; have hS1 : Below w.heap.size w w1 := (Below.grown (by assumption) hgrow1 (Below.size (by assumption)) (fun q hq => by simp [Value.ownBlock] at hq; omega)); (try have hx1 : w1.cell? ⟨w.heap.size + 1, 0, none⟩ = some (.int .i64 x) := cell_grown hgrow1 (by exact cell_new (by simp)) (by simp [Value.ownBlock])); (try have hx0 : w1.cell? ⟨w.heap.size, 0, none⟩ = some (.int .i64 x) := cell_grown hgrow1 (by exact cell_old (cell_new (by simp))) (by simp [Value.ownBlock]))))
        | ((refine step_append_own (by rfl) _ _ _ (by rfl) w.heap.size 3 i0 (.int .i64 0) 1 8 Tryz.underlying74 hi hz0 hz1 hz2 rfl (by omega) (.slice (some ⟨w.heap.size + 1, 0, none⟩) 0 0) 0 [] (by rfl) (own_at (by first | exact at_new (by simp) | exact at_old (at_new (by simp))) (by omega)) (some ⟨b, off, none⟩) k ca (icells (zs.take k)) (by rfl) rfl (by have := HL.out; simp [icells]; omega) (take_news (by assumption) HC.out hlt' HL.out (by omega)) (icells_one _) (by unfold maxLen; omega) (by omega) (Below.size (by assumption)) ?_; intro v1 w1 hown1 hgrow1; have hS1 : Below w.heap.size w w1 := (Below.grown (by assumption) hgrow1 (Below.size (by assumption)) (fun q hq => by simp [Value.ownBlock] at hq; omega)); (try have hx1 : w1.cell? ⟨w.heap.size + 1, 0, none⟩ = some (.int .i64 x) := cell_grown hgrow1 (by exact cell_new (by simp)) (by simp [Value.ownBlock])); (try have hx0 : w1.cell? ⟨w.heap.size, 0, none⟩ = some (.int .i64 x) := cell_grown hgrow1 (by exact cell_old (cell_new (by simp))) (by simp [Value.ownBlock]))))
        | ((refine step_append_own (by rfl) _ _ _ (by rfl) w.heap.size 3 i0 (.int .i64 0) 1 8 Tryz.underlying74 hi hz0 hz1 hz2 rfl (by omega) v1 (0 + k) ([] ++ icells (zs.take k)) (by rfl) (by first | exact hown1 | exact hown1.drew | exact hown1.alloc _ | exact (hown1.alloc _).drew | exact hown1.drew.alloc _ | exact (hown1.drew.alloc _).drew) (some ⟨w1.heap.size, 0, none⟩) 1 1 [.int .i64 x] (by rfl) rfl rfl (one_news (by exact cell_new (by simp))) (by intro u hu; simp at hu; subst hu; rfl) (by unfold maxLen; omega) (by omega) (Below.size (by assumption)) ?_; intro v2 w2 hown2 hgrow2; have hS2 : Below w.heap.size w w2 := (Below.grown (by assumption) hgrow2 (Below.size (by assumption)) (fun q hq => (hown1.lt q hq).1))))
        | ((refine step_append_own (by rfl) _ _ _ (by rfl) w.heap.size 3 i0 (.int .i64 0) 1 8 Tryz.underlying74 hi hz0 hz1 hz2 rfl (by omega) v1 (0 + k) ([] ++ icells (zs.take k)) (by rfl) (by first | exact hown1 | exact hown1.drew | exact hown1.alloc _ | exact (hown1.alloc _).drew | exact hown1.drew.alloc _ | exact (hown1.drew.alloc _).drew) (some ⟨w.heap.size + 1, 0, none⟩) 1 1 [.int .i64 x] (by rfl) rfl rfl (one_news (by exact hx1)) (by intro u hu; simp at hu; subst hu; rfl) (by unfold maxLen; omega) (by omega) (Below.size (by assumption)) ?_; intro v2 w2 hown2 hgrow2; have hS2 : Below w.heap.size w w2 := (Below.grown (by assumption) hgrow2 (Below.size (by assumption)) (fun q hq => (hown1.lt q hq).1))))
        | ((refine step_append_own (by rfl) _ _ _ (by rfl) w.heap.size 3 i0 (.int .i64 0) 1 8 Tryz.underlying74 hi hz0 hz1 hz2 rfl (by omega) v1 (0 + k) ([] ++ icells (zs.take k)) (by rfl) (by first | exact hown1 | exact hown1.drew | exact hown1.alloc _ | exact (hown1.alloc _).drew | exact hown1.drew.alloc _ | exact (hown1.drew.alloc _).drew) (some ⟨w.heap.size, 0, none⟩) 1 1 [.int .i64 x] (by rfl) rfl rfl (one_news (by exact hx0)) (by intro u hu; simp at hu; subst hu; rfl) (by unfold maxLen; omega) (by omega) (Below.size (by assumption)) ?_; intro v2 w2 hown2 hgrow2; have hS2 : Below w.heap.size w w2 := (Below.grown (by assumption) hgrow2 (Below.size (by assumption)) (fun q hq => (hown1.lt q hq).1))))
        | ((refine step_append_own (by rfl) _ _ _ (by rfl) w.heap.size 3 i0 (.int .i64 0) 1 8 Tryz.underlying74 hi hz0 hz1 hz2 rfl (by omega) v2 (0 + k + 1) ([] ++ icells (zs.take k) ++ [.int .i64 x]) (by rfl) (by first | exact hown2 | exact hown2.drew) (if ca = k then some ⟨b, off, none⟩ else some ⟨b, off + k, none⟩) (N - k) (ca - k) (icells (zs.drop k)) (by rfl) (if_some _ _ _) (by have := HL.out; simp [icells]; omega) (drop_news (by assumption) HC.out hlt' HL.out hca) (icells_one _) (by unfold maxLen; omega) (by omega) (Below.size (by assumption)) ?_; intro v3 w3 hown3 hgrow3; have hS3 : Below w.heap.size w w3 := (Below.grown (by assumption) hgrow3 (Below.size (by assumption)) (fun q hq => (hown2.lt q hq).1))))
        | fail)
      all_goals go_wp2
      all_goals
        go_ret
        exact ⟨put_end hown3 (by omega) (by rw [HP.out, if_neg (fun h => absurd h.1 (by have := HL.out; have := HKN.out; omega))]; simp [icells]), hS3⟩
end Go.Proofs.YtplphinaeikpmaaGreatDoor
