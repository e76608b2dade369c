/-
  Corpus: the gazettes before a day's, by the program and by the reference. Corpus: since when an item is known, by the program. Corpus: since when an item is known, by the program.
-/
import Derived.Test.YtglkpmhamekpmaaGe
namespace Go.Proofs.Ytglkpmhamekpmaa.Po
open Go Go.Pv Go.RowKit
set_option linter.unusedSimpArgs false
open Lab Lcs Go.Proofs.Ytglkpmhamekpmaa Go.Proofs.Ytglkpmhamekpmaa.Pu
set_option maxRecDepth 10000
set_option maxHeartbeats 32000000
end Go.Proofs.Ytglkpmhamekpmaa.Po
namespace Go.Proofs.Ytglkpmhamekpmaa.Po
open Go Go.Pv Go.RowKit
set_option linter.unusedSimpArgs false
open Lab Lcs Go.Proofs.Ytglkpmhamekpmaa Go.Proofs.Ytglkpmhamekpmaa.Pu
set_option maxRecDepth 10000
set_option maxHeartbeats 32000000
abbrev eiC (e : Ei) : List PV := [.imm (.int .i64 e.act), .imm (.int .i64 e.item), .imm (.int .i64 e.day), .imm (.int .i64 e.it.kind), .imm (.sl 2 (e.it.p.map spv)), .imm (.sl 2 (e.it.q.map spv)), .imm (.int .i64 e.it.z), .imm (.int .i64 e.it.nth), .imm (.int .i64 e.it.unit.id.x), .imm (.int .i64 e.it.unit.id.y), .imm (.int .i64 e.it.unit.id.z), .imm (.int .i64 e.it.unit.kind), .imm (.str e.it.unit.label), .imm (.sl 4 (e.it.unit.head.map wdv)), .imm (.sl 4 (e.it.unit.words.map wdv)), .imm (.sl 8 (e.it.unit.kids.map uv)), .imm (.sl 1 (e.it.old.map IV.str)), .imm (.sl 1 (e.it.new.map IV.str)), .imm (.str e.it.lb), .imm (.str e.it.fr), .imm (.int .i64 e.it.sk), .imm (.int .i64 e.it.sd), .imm (.str e.it.se), .imm (.int .i64 e.it.a), .imm (.int .i64 e.it.i), .imm (.int .i64 e.it.d), .imm (.str e.it.ev), .imm (.sl 25 (e.it.bys.map itv))]
end Go.Proofs.Ytglkpmhamekpmaa.Po
namespace Go.Proofs.Ytglkpmhamekpmaa.Po
open Go Go.Pv Go.RowKit
set_option linter.unusedSimpArgs false
open Lab Lcs Go.Proofs.Ytglkpmhamekpmaa Go.Proofs.Ytglkpmhamekpmaa.Pu
set_option maxRecDepth 10000
set_option maxHeartbeats 32000000
theorem acts_addA {r : Rg} {n : Int} {a : Ac} (h : lookL r.acts n = some a) (b : Ac) : lookL (addA r b).acts n = some a := by
 unfold addA
 cases hb : lookL r.acts b.num with
 | some c => exact h
 | none =>
   dsimp only
   rw [lookL_put]
   rw [if_neg]
   · exact h
   · intro e
     rw [e, h] at hb
     cases hb
theorem acts_foldA {n : Int} {a : Ac} : ∀ (l : List Ac) {r : Rg}, lookL r.acts n = some a → lookL (l.foldl addA r).acts n = some a
 | [], _, h => h
 | b :: l, _, h => acts_foldA l (acts_addA h b)
theorem acts_foldG {n : Int} {a : Ac} : ∀ (l : List Gz) {r : Rg}, lookL r.acts n = some a → lookL (l.foldl addG r).acts n = some a
 | [], _, h => h
 | g :: l, _, h => acts_foldG l (acts_foldA g.acts h)
theorem acts_mono {l : List Gz} {n : Int} {a : Ac} {k : Nat} (h : lookL (regO (l.take k)).acts n = some a) : lookL (regO l).acts n = some a := by
 have := acts_foldG (l.drop k) h
 unfold regO at this ⊢
 rwa [← List.foldl_append, List.take_append_drop] at this
theorem findR_some {r : Rg} {n i : Int} {e : Ei} (h : findR r n i = some e) : ∃ a, lookL r.acts n = some a ∧ e.act = n ∧ e.item = i ∧ e.day = a.day ∧ 0 ≤ i ∧ i.toNat < a.items.length := by
 unfold findR at h
 cases hl : lookL r.acts n with
 | none => rw [hl] at h; cases h
 | some a =>
   rw [hl] at h
   dsimp only at h
   by_cases h0 : 0 ≤ i
   · rw [if_pos h0] at h
     cases hx : a.items[i.toNat]? with
     | none => rw [hx] at h; cases h
     | some x =>
       rw [hx] at h
       injection h with h
       subst h
       exact ⟨a, rfl, rfl, rfl, rfl, h0, (List.getElem?_eq_some_iff.1 hx).1⟩
   · rw [if_neg h0] at h; cases h
theorem findR_is {r : Rg} {n i : Int} {a : Ac} (h : lookL r.acts n = some a) (h0 : 0 ≤ i) (hl : i.toNat < a.items.length) : ∃ e, findR r n i = some e := by
 unfold findR
 rw [h]
 dsimp only
 rw [if_pos h0, List.getElem?_eq_getElem hl]
 exact ⟨_, rfl⟩
theorem findR_pre {l : List Gz} {k : Nat} {n i : Int} {e : Ei} (h : findR (regO (l.take k)) n i = some e) : ∃ d, findR (regO l) n i = some d ∧ e.act = d.act ∧ e.item = d.item ∧ e.day = d.day := by
 obtain ⟨a, h1, h2, h3, h4, h5, h6⟩ := findR_some h
 have hm := acts_mono h1
 obtain ⟨d, hd⟩ := findR_is hm h5 h6
 obtain ⟨b, g1, g2, g3, g4, _, _⟩ := findR_some hd
 rw [hm] at g1
 injection g1 with g1
 subst g1
 exact ⟨d, hd, by rw [h2, g2], by rw [h3, g3], by rw [h4, g4]⟩
end Go.Proofs.Ytglkpmhamekpmaa.Po
