/-
  Slices of edits in memory, and the contract of copyWords.
-/
import Derived.Test.YtklegjmlpaimpaaLawB
import Derived.Deep.RegionHeld3
namespace Go.Proofs.Ytklegjmlpaimpaa
open Go.RowKit (wrap32 wrap64 intOf Hid Below)
open Lcs Rise

theorem info_edit : (Try.prog.info? 39).map (fun i => (i.zero, i.size, i.bytes)) = some (some (.agg #[.int .i64 0, .slice none 0 0, .slice none 0 0]), 3, 56) := by kernel_rfl
/-- The cells of a list of edits: for each where, what is taken out, what is put in; of the two slices something holds. -/
def EdC (Pr : Option Addr → Nat → Nat → List Str → Prop) : List Value → List Ed → Prop
  | vs, [] => vs = []
  | vs, e :: r => ∃ (Ao An : Option Addr) (no co nn cn : Nat) (vs' : List Value), vs = .int .i64 e.pos :: .slice Ao no co :: .slice An nn cn :: vs' ∧ Pr Ao no co e.old ∧ Pr An nn cn e.new ∧ EdC Pr vs' r
theorem EdC.mono {Pr Pr' : Option Addr → Nat → Nat → List Str → Prop} (hp : ∀ A n c S, Pr A n c S → Pr' A n c S) : ∀ {L : List Ed} {vs : List Value}, EdC Pr vs L → EdC Pr' vs L
  | [], _, h => h
  | _ :: _, _, ⟨Ao, An, no, co, nn, cn, vs', e, h1, h2, h3⟩ => ⟨Ao, An, no, co, nn, cn, vs', e, hp _ _ _ _ h1, hp _ _ _ _ h2, EdC.mono hp h3⟩
theorem EdC.len {Pr : Option Addr → Nat → Nat → List Str → Prop} : ∀ {L : List Ed} {vs : List Value}, EdC Pr vs L → vs.length = L.length * 3
  | [], _, h => by rw [show _ = [] from h]; rfl
  | _ :: _, _, ⟨_, _, _, _, _, _, vs', e, _, _, h3⟩ => by
    rw [e]
    have := EdC.len h3
    simp only [List.length_cons]
    omega
theorem EdC.app {Pr : Option Addr → Nat → Nat → List Str → Prop} : ∀ {L M : List Ed} {vs us : List Value}, EdC Pr vs L → EdC Pr us M → EdC Pr (vs ++ us) (L ++ M)
  | [], _, _, _, h, h' => by rw [show _ = [] from h]; exact h'
  | _ :: _, _, _, _, ⟨Ao, An, no, co, nn, cn, vs', e, h1, h2, h3⟩, h' => ⟨Ao, An, no, co, nn, cn, vs' ++ _, by rw [e]; rfl, h1, h2, EdC.app h3 h'⟩
theorem EdC.snoc {Pr : Option Addr → Nat → Nat → List Str → Prop} {L : List Ed} {vs : List Value} (h : EdC Pr vs L) (e : Ed) {Ao An : Option Addr} {no co nn cn : Nat} (h1 : Pr Ao no co e.old) (h2 : Pr An nn cn e.new) : EdC Pr (vs ++ [.int .i64 e.pos, .slice Ao no co, .slice An nn cn]) (L ++ [e]) :=
  h.app ⟨Ao, An, no, co, nn, cn, [], rfl, h1, h2, rfl⟩
/-- The k-th edit. -/
def ed (L : List Ed) (k : Nat) : Ed := L.getD k ⟨0, [], []⟩
theorem EdC.at_ {Pr : Option Addr → Nat → Nat → List Str → Prop} : ∀ {L : List Ed} {vs : List Value} {k : Nat}, EdC Pr vs L → k < L.length → ∃ (Ao An : Option Addr) (no co nn cn : Nat), vs[k * 3]? = some (.int .i64 (ed L k).pos) ∧ vs[k * 3 + 1]? = some (.slice Ao no co) ∧ vs[k * 3 + 2]? = some (.slice An nn cn) ∧ Pr Ao no co (ed L k).old ∧ Pr An nn cn (ed L k).new
  | [], _, _, _, h => absurd h (by simp)
  | _ :: _, _, 0, ⟨Ao, An, no, co, nn, cn, vs', e, h1, h2, h3⟩, _ => ⟨Ao, An, no, co, nn, cn, by rw [e]; rfl, by rw [e]; rfl, by rw [e]; rfl, h1, h2⟩
  | _ :: L, _, k + 1, ⟨_, _, _, _, _, _, vs', e, _, _, h3⟩, hk => by
    obtain ⟨Ao, An, no, co, nn, cn, x1, x2, x3, x4, x5⟩ := EdC.at_ (k := k) h3 (by simpa using hk)
    refine ⟨Ao, An, no, co, nn, cn, ?_, ?_, ?_, x4, x5⟩
    · rw [e, show (k + 1) * 3 = k * 3 + 3 by omega]; exact x1
    · rw [e, show (k + 1) * 3 + 1 = (k * 3 + 1) + 3 by omega]; exact x2
    · rw [e, show (k + 1) * 3 + 2 = (k * 3 + 2) + 3 by omega]; exact x3
abbrev EdCells (w : World) : List Value → List Ed → Prop := EdC (Sq w)
theorem EdC.below {w w' : World} (hb : Below w.heap.size w w') {L : List Ed} {vs : List Value} (h : EdCells w vs L) : EdCells w' vs L := h.mono fun _ _ _ _ h => h.below hb
/-- A sequence away from a block and from a row. -/
def SqF (G : Nat) (ob : Option Nat) (w : World) (A : Option Addr) (n c : Nat) (L : List Str) : Prop := Sq w A n c L ∧ (0 < n → ∀ b off, A = some ⟨b, off, none⟩ → b ≠ G ∧ some b ≠ ob)
theorem SqF.below {G : Nat} {ob : Option Nat} {w w' : World} {A : Option Addr} {n c : Nat} {L : List Str} (h : SqF G ob w A n c L) (hb : Below w.heap.size w w') : SqF G ob w' A n c L := ⟨h.1.below hb, h.2⟩
theorem SqF.far {G o : Nat} {ob : Option Nat} {w : World} {A : Option Addr} {n c : Nat} {L : List Str} (h : SqF G ob w A n c L) (v : Value) : SqF G ob (w.setCell ⟨G, o, none⟩ v) A n c L := by
  obtain ⟨⟨⟨⟨h1, h2⟩, h3, h4, h5, h6⟩, h7⟩, h8⟩ := h
  refine ⟨⟨⟨⟨h1, fun hn => ?_⟩, h3, h4, h5, Nat.le_refl _⟩, h7⟩, h8⟩
  obtain ⟨b, off, e, hlt, hc⟩ := h2 hn
  have hne := (h8 hn b off e).1
  exact ⟨b, off, e, by simpa using hlt, fun k u hk => by rw [World.cell?_setCell_other _ _ _ _ (by intro e'; injection e' with e1 _; exact hne e1.symm)]; exact hc k u hk⟩
theorem SqF.grown {G : Nat} {ob ob' : Option Nat} {w w' : World} {A : Option Addr} {n c : Nat} {L : List Str} (h : SqF G ob w A n c L) (hg : w.grownBy w' ob) (hat : ob' = ob ∨ ob' = some w.heap.size) : SqF G ob' w' A n c L := by
  obtain ⟨⟨⟨⟨h1, h2⟩, h3, h4, h5, h6⟩, h7⟩, h8⟩ := h
  refine ⟨⟨⟨⟨h1, fun hn => ?_⟩, h3, h4, h5, Nat.le_refl _⟩, h7⟩, fun hn b off e => ⟨(h8 hn b off e).1, ?_⟩⟩
  · obtain ⟨b, off, e, hlt, hc⟩ := h2 hn
    exact ⟨b, off, e, Nat.lt_of_lt_of_le hlt hg.size, fun k u hk => hg.cell (hc k u hk) (h8 hn b off e).2⟩
  · rcases hat with rfl | rfl
    · exact (h8 hn b off e).2
    · obtain ⟨b', off', e', hlt, _⟩ := h2 hn
      rw [e] at e'
      injection e' with e'
      injection e' with e1 _
      intro e2
      injection e2 with e2
      omega
/-- Edits of the call's own, beside a box of two numbers in block G that is stored into; w3: the world ahead of the loop. -/
structure GSt (w3 : World) (G : Nat) (Av : Option Addr) (qq cc : Nat) (K : List Ed) (vs : List Value) (a b : Int) (X : World) : Prop where
  own : X.ownsRow w3.heap.size 39 3 (.slice Av qq cc) qq vs
  eds : EdC (SqF G (Value.slice Av qq cc).ownBlock X) vs K
  c0 : X.cell? ⟨G, 0, none⟩ = some (.int .i64 a)
  c1 : X.cell? ⟨G, 1, none⟩ = some (.int .i64 b)
  cf : ∀ o, X.frozen? ⟨G, o, none⟩ = false
  grown : w3.grownBy X (some G)
/-- A slice of edits. -/
def Eds (w : World) (A : Option Addr) (n c : Nat) (L : List Ed) : Prop :=
  L.length = n ∧ n ≤ c ∧ c ≤ 9223372036854775807 ∧ ∃ vs, EdCells w vs L ∧ (0 < n → ∃ b off, A = some ⟨b, off, none⟩ ∧ b < w.heap.size ∧ ∀ j u, vs[j]? = some u → w.cell? ⟨b, off + j, none⟩ = some u)
theorem Eds.below {w w' : World} {A : Option Addr} {n c : Nat} {L : List Ed} (h : Eds w A n c L) (hb : Below w.heap.size w w') : Eds w' A n c L := by
  obtain ⟨h1, h2, h3, vs, h4, h5⟩ := h
  refine ⟨h1, h2, h3, vs, h4.below hb, fun hn => ?_⟩
  obtain ⟨b, off, e, hlt, hc⟩ := h5 hn
  exact ⟨b, off, e, Nat.lt_of_lt_of_le hlt hb.size, fun j u hj => (hb.cell (p := ⟨b, off + j, none⟩) hlt).trans (hc j u hj)⟩
theorem Eds.at_ {w : World} {A : Option Addr} {n c : Nat} {L : List Ed} (h : Eds w A n c L) {k : Nat} (hk : k < n) :
    ∃ (b off : Nat) (Ao An : Option Addr) (no co nn cn : Nat), A = some ⟨b, off, none⟩ ∧ b < w.heap.size ∧ w.cell? ⟨b, off + k * 3, none⟩ = some (.int .i64 (ed L k).pos) ∧ w.cell? ⟨b, off + k * 3 + 1, none⟩ = some (.slice Ao no co) ∧ w.cell? ⟨b, off + k * 3 + 2, none⟩ = some (.slice An nn cn) ∧ Sq w Ao no co (ed L k).old ∧ Sq w An nn cn (ed L k).new := by
  obtain ⟨h1, _, _, vs, h4, h5⟩ := h
  obtain ⟨b, off, e, hlt, hc⟩ := h5 (by omega)
  obtain ⟨Ao, An, no, co, nn, cn, x1, x2, x3, x4, x5⟩ := h4.at_ (k := k) (by omega)
  exact ⟨b, off, Ao, An, no, co, nn, cn, e, hlt, hc _ _ x1, by rw [Nat.add_assoc]; exact hc _ _ x2, by rw [Nat.add_assoc]; exact hc _ _ x3, x4, x5⟩
theorem Eds.of_own {w : World} {base n c : Nat} {A : Option Addr} {L : List Ed} {vs : List Value} (h : w.ownsRow base 39 3 (.slice A n c) n vs) (hv : EdCells w vs L) (hn : n = L.length) : Eds w A n c L := by
  obtain ⟨_, _, he, h1, h2⟩ := own_slice h
  have h3 : n ≤ c ∧ c ≤ 9223372036854775807 := by injection he with _ _ h3; subst h3; exact ⟨h1, h2⟩
  refine ⟨hn.symm, h3.1, h3.2, vs, hv, fun h0 => ?_⟩
  obtain ⟨g, cap, hvv, _, hlt⟩ := h.form h0
  have hA : A = some ⟨g, 0, none⟩ := by injection hvv
  subst hA
  refine ⟨g, 0, rfl, hlt, fun j u hu => ?_⟩
  have hj : j < n * 3 := by have := (List.getElem?_eq_some_iff.1 hu).1; rw [hv.len] at this; omega
  rw [Nat.zero_add]
  exact (h.cellAt (g := g) j hj).trans hu
theorem Eds.nil (w : World) (A : Option Addr) (c : Nat) (hc : c ≤ 9223372036854775807) : Eds w A 0 c [] := ⟨rfl, Nat.zero_le _, hc, [], rfl, fun h => absurd h (by omega)⟩
/-- What hands back edits. -/
def EdsRet (L : List Ed) (e : Ending) (w' : World) : Prop := ∃ A n c, e = .returned (.slice A n c) ∧ Eds w' A n c L

set_option maxHeartbeats 1000000 in
theorem copy_any (L : List Str) (n c : Nat) (A : Option Addr) (w : World) (hz : ValsAt w.heap.size w A n (sv L)) (hn : n ≤ 1000000) :
    Calls Try.prog 31 #[.slice A n c] w fun e w' => ∃ A' c', e = .returned (.slice A' n c') ∧ Sq w' A' n c' L ∧ Below w.heap.size w w' ∧ ∀ b off, A' = some ⟨b, off, none⟩ → w.heap.size ≤ b := by
  obtain ⟨i0, hi, hz0, hz1, hz2⟩ := info_parts info_str
  have HZ := Lib.hid hz
  have HN := Lib.hid (World.ownsRow_nil w w.heap.size 9 1)
  clear hz
  go_enter Try.func31, Try.ntmps31
  go_wp2_with (at_builtin; refine wpList_append_vals _ rfl _ _ 22 rfl w.heap.size 9 i0 (.string ⟨#[]⟩) 16 Try.underlying22 hi hz0 hz1 hz2 rfl _ _ _ rfl HN.out _ _ _ _ _ rfl HZ.out (sv_one _) (by unfold maxLen; omega) (by omega) (Nat.le_refl _) ?_)
  intro A' c' w2 hown' hgrow
  have hb2 := below_own HN.out (Below.refl _ _) (Nat.le_refl _) hgrow
  have HS := Lib.hid (Sq.of_own hown' (by omega))
  have HL := Lib.hid hown'.lt
  clear hown' hgrow
  go_wp2
  go_ret
  exact ⟨A', c', rfl, HS.out, hb2, fun b off e => (HL.out b (by rw [e]; rfl)).1⟩
/-- wordseq.Equal. -/
theorem weq_any (La Lb : List Str) (N M ca cb : Nat) (Aa Ab : Option Addr) (w : World) (hza : ValsAt w.heap.size w Aa N (sv La)) (hzb : ValsAt w.heap.size w Ab M (sv Lb)) (hN : N ≤ 9223372036854775807) (hM : M ≤ 9223372036854775807) :
    Calls Try.prog 30 #[.slice Aa N ca, .slice Ab M cb] w fun e w' => e = .returned (.bool (decide (La = Lb))) ∧ ∃ q, w' = w.drewN q := by
  have HE := Lib.hid (equal_any La Lb _ N M ca cb Aa Ab w hza hzb hN hM (Nat.le_refl _))
  clear hza hzb
  go_enter Try.func30, Try.ntmps30
  go_wp2_with (go_at_call 35; ((with_reducible refine (HE.out).mono ?_); rintro e w1 ⟨rfl, hq⟩))
  go_ret
  exact ⟨rfl, hq⟩
/-- An append at a step of a region that draws its order. -/
theorem step_append_own {P : Program} {w : World} {ops : Array Oper} {o : Oper} {a : Act} {K : Act → World → Prop} {Q : Exit → Act → World → Prop} {E : Prop} (hgd : o.guard = none) (s x : Operand) (t : TypeId)
    (ho : o.op = .call { callee := .builtin .append, args := #[s, x], argTypes := #[t, t] })
    (base : Nat) (e : TypeId) (i : TypeInfo) (z : Value) (size bytes : Nat) (ht : P.underlying t = some (.slice e)) (hi : P.info? e = some i) (hz : i.zero = some z)
    (hsize : i.size = size) (hby : i.bytes = bytes) (hzs : z.cells.size = size) (hsz : 0 < size)
    (v : Value) (n : Nat) (xs : List Value) (hs : a.eval s = v) (hown : w.ownsRow base e size v n xs)
    (ad : Addr) (m c : Nat) (news : List Value) (hx : a.eval x = .slice (some ad) m c) (hl : news.length = m * size) (hnews : ∀ j u, news[j]? = some u → w.cell? (ad.add j) = some u) (h1 : ∀ u ∈ news, u.oneCell' = true)
    (h63 : n + m ≤ maxLen) (hbytes : (n + m) * bytes ≤ 140737488355328) (hbase : base ≤ w.heap.size)
    (h : ∀ v' w', w'.ownsRow base e size v' (n + m) (xs ++ news) → w.grownBy w' v.ownBlock → K (a.put o.dst v') w') :
    if Region.wanted o (yielded ops a.tmps) = true then Oper.wp P o a w K Q else E := by
  have hw : Region.wanted o (yielded ops a.tmps) = true := by simp [Region.wanted, hgd]
  rw [if_pos hw]
  exact wp_append_own w s x t ho base e i z size bytes ht hi hz hsize hby hzs hsz v n xs hs hown ad m c news hx hl hnews h1 h63 hbytes hbase fun v' w' h2 h3 _ => h v' w' h2 h3
theorem new_cells (w : World) (c : Array Value) (t : TypeId) (j : Nat) (u : Value) (h : c.toList[j]? = some u) : (w.alloc (.cells c t)).cell? ((⟨w.heap.size, 0, none⟩ : Addr).add j) = some u := by
  rw [Go.WideShapes.add_plain, Nat.zero_add, World.cell?_alloc_at _ _ _ _ rfl]
  simpa using h
theorem kept_cells {W w2 : World} {c : Array Value} {t : TypeId} (h : Below (W.alloc (.cells c t)).heap.size (W.alloc (.cells c t)) w2) (j : Nat) (u : Value) (hj : c.toList[j]? = some u) : w2.cell? ((⟨W.heap.size, 0, none⟩ : Addr).add j) = some u := by
  have h1 := new_cells W c t j u hj
  rw [Go.WideShapes.add_plain] at h1 ⊢
  exact (h.cell (p := ⟨W.heap.size, 0 + j, none⟩) (by simp)).trans h1
theorem kept_cells' {W w2 : World} {c : Array Value} {t : TypeId} (h : Below (W.alloc (.cells c t)).drew.heap.size (W.alloc (.cells c t)).drew w2) (j : Nat) (u : Value) (hj : c.toList[j]? = some u) : w2.cell? ((⟨W.heap.size, 0, none⟩ : Addr).add j) = some u := by
  have h1 := new_cells W c t j u hj
  rw [Go.WideShapes.add_plain] at h1 ⊢
  exact (h.cell (p := ⟨W.heap.size, 0 + j, none⟩) (by show _ < (W.alloc (.cells c t)).heap.size; simp)).trans h1
theorem gb_trans {w3 wr w' : World} {G : Nat} {row : Option Nat} (h : w3.grownBy wr (some G)) (h2 : wr.grownBy w' row) (hrow : ∀ g, row = some g → w3.heap.size ≤ g ∨ g = G) : w3.grownBy w' (some G) :=
  ⟨h2.os.trans h.os, h2.tape.trans h.tape, h2.output.trans h.output, Nat.le_trans h.size h2.size, fun k hk hne => (h2.block k (Nat.lt_of_lt_of_le hk h.size) (fun e => by
    rcases hrow k e.symm with h3 | h3
    · omega
    · subst h3; exact hne rfl)).trans (h.block k hk hne)⟩
theorem gb_below {w3 wr w' : World} {G : Nat} (h : w3.grownBy wr (some G)) (h2 : Below wr.heap.size wr w') : w3.grownBy w' (some G) :=
  ⟨h2.os.trans h.os, h2.tape.trans h.tape, h2.output.trans h.output, Nat.le_trans h.size h2.size, fun k hk hne => (h2.block k (Nat.lt_of_lt_of_le hk h.size)).trans (h.block k hk hne)⟩
theorem GSt.below {w3 : World} {G : Nat} {Av : Option Addr} {qq cc : Nat} {K : List Ed} {vs : List Value} {a b : Int} {X Y : World} (h : GSt w3 G Av qq cc K vs a b X) (hG : G < w3.heap.size) (hb : Below X.heap.size X Y) : GSt w3 G Av qq cc K vs a b Y := by
  have hl := Nat.lt_of_lt_of_le hG h.grown.size
  exact ⟨own_below h.own hb, h.eds.mono fun _ _ _ _ x => x.below hb, (hb.cell (p := ⟨G, 0, none⟩) hl).trans h.c0, (hb.cell (p := ⟨G, 1, none⟩) hl).trans h.c1, fun o => (hb.frozen (p := ⟨G, o, none⟩) hl).trans (h.cf o), gb_below h.grown hb⟩
theorem own_ne {w3 X : World} {G qq cc size : Nat} {e : TypeId} {Av : Option Addr} {vs : List Value} (h : X.ownsRow w3.heap.size e size (.slice Av qq cc) qq vs) (hG : G < w3.heap.size) : (Value.slice Av qq cc).ownBlock ≠ some G := by
  intro e
  have := (h.lt G e).1
  omega
theorem GSt.put {w3 : World} {G : Nat} {Av : Option Addr} {qq cc : Nat} {K : List Ed} {vs : List Value} {a b : Int} {X : World} (h : GSt w3 G Av qq cc K vs a b X) (hG : G < w3.heap.size) (a' b' : Int) : GSt w3 G Av qq cc K vs a' b' ((X.setCell ⟨G, 0, none⟩ (.int .i64 a')).setCell ⟨G, 1, none⟩ (.int .i64 b')) := by
  have hne := own_ne h.own hG
  have c1' : (X.setCell ⟨G, 0, none⟩ (.int .i64 a')).cell? ⟨G, 1, none⟩ = some (.int .i64 b) := by
    rw [World.cell?_setCell_other _ _ _ _ (by intro e; injection e with _ e; omega)]; exact h.c1
  refine ⟨own_far (own_far h.own hne) hne, h.eds.mono fun _ _ _ _ x => (x.far _).far _, ?_, World.cell?_setCell_same _ _ _ c1', fun o => by rw [World.frozen?_setCell, World.frozen?_setCell]; exact h.cf o, ?_⟩
  · rw [World.cell?_setCell_other _ _ _ _ (by intro e; injection e with _ e; omega)]
    exact World.cell?_setCell_same _ _ _ h.c0
  · exact gb_trans (gb_trans h.grown (grown_set X ⟨G, 0, none⟩ _) (fun g e => by injection e with e; exact Or.inr e.symm)) (grown_set _ ⟨G, 1, none⟩ _) (fun g e => by injection e with e; exact Or.inr e.symm)
theorem GSt.more {w3 : World} {G : Nat} {Av A' : Option Addr} {qq cc c' : Nat} {K : List Ed} {vs vs' : List Value} {a b : Int} {X Y : World} (h : GSt w3 G Av qq cc K vs a b X) (hG : G < w3.heap.size) {e : Ed} {Ao An : Option Addr} {no co nn cn : Nat}
    (ho : SqF G (Value.slice Av qq cc).ownBlock X Ao no co e.old) (hn : SqF G (Value.slice Av qq cc).ownBlock X An nn cn e.new) (hvs : vs' = vs ++ [.int .i64 e.pos, .slice Ao no co, .slice An nn cn])
    (hown : Y.ownsRow w3.heap.size 39 3 (.slice A' (qq + 1) c') (qq + 1) vs') (hgrow : X.grownBy Y (Value.slice Av qq cc).ownBlock) (hat : (Value.slice A' (qq + 1) c').ownBlock = (Value.slice Av qq cc).ownBlock ∨ (Value.slice A' (qq + 1) c').ownBlock = some X.heap.size) : GSt w3 G A' (qq + 1) c' (K ++ [e]) vs' a b Y := by
  have hne := own_ne h.own hG
  subst hvs
  refine ⟨hown, (h.eds.snoc e ho hn).mono fun _ _ _ _ x => x.grown hgrow hat, hgrow.cell h.c0 (Ne.symm hne), hgrow.cell h.c1 (Ne.symm hne), fun o => ?_, gb_trans h.grown hgrow fun g hg => Or.inl (h.own.lt g hg).1⟩
  exact (World.frozen?_of_block (a := ⟨G, o, none⟩) (hgrow.block G (Nat.lt_of_lt_of_le hG h.grown.size) (Ne.symm hne))).trans (h.cf o)
theorem step_append_at {P : Program} {w : World} {ops : Array Oper} {o : Oper} {a : Act} {K : Act → World → Prop} {Q : Exit → Act → World → Prop} {E : Prop} (hgd : o.guard = none) (s x : Operand) (t : TypeId)
    (ho : o.op = .call { callee := .builtin .append, args := #[s, x], argTypes := #[t, t] })
    (base : Nat) (e : TypeId) (i : TypeInfo) (z : Value) (size bytes : Nat) (ht : P.underlying t = some (.slice e)) (hi : P.info? e = some i) (hz : i.zero = some z)
    (hsize : i.size = size) (hby : i.bytes = bytes) (hzs : z.cells.size = size) (hsz : 0 < size)
    (v : Value) (n : Nat) (xs : List Value) (hs : a.eval s = v) (hown : w.ownsRow base e size v n xs)
    (ad : Addr) (m c : Nat) (news : List Value) (hx : a.eval x = .slice (some ad) m c) (hl : news.length = m * size) (hnews : ∀ j u, news[j]? = some u → w.cell? (ad.add j) = some u) (h1 : ∀ u ∈ news, u.oneCell' = true)
    (h63 : n + m ≤ maxLen) (hbytes : (n + m) * bytes ≤ 140737488355328) (hbase : base ≤ w.heap.size)
    (h : ∀ v' w', w'.ownsRow base e size v' (n + m) (xs ++ news) → w.grownBy w' v.ownBlock → (v'.ownBlock = v.ownBlock ∨ v'.ownBlock = some w.heap.size) → K (a.put o.dst v') w') :
    if Region.wanted o (yielded ops a.tmps) = true then Oper.wp P o a w K Q else E := by
  have hw : Region.wanted o (yielded ops a.tmps) = true := by simp [Region.wanted, hgd]
  rw [if_pos hw]
  obtain ⟨v', w', hr, h2, h3, _, h5⟩ := run_append_own_at (P := P) w base t o.type e i z size bytes ht hi hz hsize hby hzs hsz v n xs hown ad m c news hl hnews h1 h63 hbytes hbase
  unfold Oper.wp execOp
  simp only [ho, resolve, invoke, builtin, Sem.run_bind, Sem.run_pure, Result.andThen_ok, List.map_toArray, List.map_cons, List.map_nil, hs, hx, hr]
  exact h v' w' h2 h3 h5
end Go.Proofs.Ytklegjmlpaimpaa
