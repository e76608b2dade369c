/-
  Plain values: how structs of this program are compared.
-/
import Derived.Test.YtopohipcpomecaaDoorTd
import Derived.Laws.StructEq
namespace Go.Proofs.YtopohipcpomecaaDoor.Pu
open Go Go.Pv
set_option linter.unusedSimpArgs false
theorem agg_int (w : World) : (isAgg 3).run Tryd.prog w = .ok false w := run_isAgg (P := Tryd.prog) (u := .int .i64) (by kernel_rfl)
theorem agg_str (w : World) : (isAgg 9).run Tryd.prog w = .ok false w := run_isAgg (P := Tryd.prog) (u := .string) (by kernel_rfl)
theorem agg_mark (w : World) : (isAgg 51).run Tryd.prog w = .ok true w := run_isAgg (P := Tryd.prog) Tryd.underlying51
theorem size_mark (w : World) : (sizeOf 51).run Tryd.prog w = .ok 3 w := by
 obtain ⟨i, z, u, h1, _, _, _, _, _, _, h8, _⟩ := td_facts td_mark
 rw [Go.Pv.run_sizeOf h1, ← h8]
theorem und_int : Tryd.prog.underlying 3 = some (.int .i64) := by kernel_rfl
theorem und_str : Tryd.prog.underlying 9 = some .string := by kernel_rfl
theorem eq_id (d : Nat) (a b c x y z : Int) (w : World) : (Op.equalIn (d + 2) 26 (.agg #[.int .i64 a, .int .i64 b, .int .i64 c]) (.agg #[.int .i64 x, .int .i64 y, .int .i64 z])).run Tryd.prog w = .ok (decide (a = x) && (decide (b = y) && decide (c = z))) w := by
 rw [run_equalIn_struct w (d + 1) 26 _ _ (by kernel_rfl) (by kernel_rfl)]
 simp only [Program.fieldsOf, Tryd.underlying26]
 by_cases h1 : a = x <;> by_cases h2 : b = y <;> by_cases h3 : c = z <;> simp [Op.eqFields, part, agg_int, run_equalIn_int _ _ _ _ _ _ _ und_int, h1, h2, h3]
theorem eq_mark (d : Nat) (a b c x y z : Int) (w : World) : (Op.equalIn (d + 2) 51 (.agg #[.int .i64 a, .int .i64 b, .int .i64 c]) (.agg #[.int .i64 x, .int .i64 y, .int .i64 z])).run Tryd.prog w = .ok (decide (a = x) && (decide (b = y) && decide (c = z))) w := by
 rw [run_equalIn_struct w (d + 1) 51 _ _ (by kernel_rfl) (by kernel_rfl)]
 simp only [Program.fieldsOf, Tryd.underlying51]
 by_cases h1 : a = x <;> by_cases h2 : b = y <;> by_cases h3 : c = z <;> simp [Op.eqFields, part, agg_int, run_equalIn_int _ _ _ _ _ _ _ und_int, h1, h2, h3]
theorem eq_word (d : Nat) (s t : ByteArray) (a b c x y z : Int) (w : World) : (Op.equalIn (d + 3) 53 (.agg #[.string s, .int .i64 a, .int .i64 b, .int .i64 c]) (.agg #[.string t, .int .i64 x, .int .i64 y, .int .i64 z])).run Tryd.prog w = .ok (decide (s = t) && (decide (a = x) && (decide (b = y) && decide (c = z)))) w := by
 rw [run_equalIn_struct w (d + 2) 53 _ _ (by kernel_rfl) (by kernel_rfl)]
 simp only [Program.fieldsOf, Tryd.underlying53]
 have hs : (s.toList == t.toList) = decide (s = t) := by
   rw [← beq_toListBytes]
   by_cases h : s = t
   · subst h; simp [beq_toListBytes]
   · simp only [h, decide_false]
     rw [beq_toListBytes, Go.ByteArray.toList_eq, Go.ByteArray.toList_eq]
     simp only [beq_eq_false_iff_ne]
     intro e
     apply h
     cases s; cases t
     simp_all
 have hm := fun w => eq_mark d a b c x y z w
 by_cases h1 : s = t <;> by_cases h2 : (a = x ∧ b = y ∧ c = z)
 all_goals
   simp [Op.eqFields, part, agg_int, agg_str, agg_mark, size_mark, run_equalIn_string _ _ _ _ _ und_str, hs, h1, hm, h2]
   try (by_cases h3 : a = x <;> by_cases h4 : b = y <;> simp_all)
theorem chk_int (em : Bool) (n : Nat) (z : Int) (w : World) : (Instr.checkKey em (n + 1) 3 (.int .i64 z)).run Tryd.prog w = .ok () w := by
 simp [Instr.checkKey, run_underlying und_int]
theorem chk_str (em : Bool) (n : Nat) (s : ByteArray) (w : World) : (Instr.checkKey em (n + 1) 9 (.string s)).run Tryd.prog w = .ok () w := by
 simp [Instr.checkKey, run_underlying und_str]
theorem chk_id (em : Bool) (n : Nat) (a b c : Int) (w : World) : (Instr.checkKey em (n + 2) 26 (.agg #[.int .i64 a, .int .i64 b, .int .i64 c])).run Tryd.prog w = .ok () w := by
 have hc := fun z => chk_int em n z w
 rw [Instr.checkKey]
 simp [run_underlying Tryd.underlying26, part, agg_int, hc, Result.andThen]
theorem chk_mark (em : Bool) (n : Nat) (a b c : Int) (w : World) : (Instr.checkKey em (n + 2) 51 (.agg #[.int .i64 a, .int .i64 b, .int .i64 c])).run Tryd.prog w = .ok () w := by
 have hc := fun z => chk_int em n z w
 rw [Instr.checkKey]
 simp [run_underlying Tryd.underlying51, part, agg_int, hc, Result.andThen]
theorem chk_word (em : Bool) (n : Nat) (s : ByteArray) (a b c : Int) (w : World) : (Instr.checkKey em (n + 3) 53 (.agg #[.string s, .int .i64 a, .int .i64 b, .int .i64 c])).run Tryd.prog w = .ok () w := by
 have hs := chk_str em (n + 1) s w
 have hm := chk_mark em n a b c w
 rw [Instr.checkKey]
 simp [run_underlying Tryd.underlying53, part, agg_int, agg_str, agg_mark, size_mark, hs, hm, Result.andThen]
theorem shape_int {is : List IV} {k : IntKind} {ks : List CK} (h : shapeB is (.int k :: ks) = true) : ∃ z r, is = .int k z :: r ∧ shapeB r ks = true := by
 match is, h with
 | .int k' z :: r, h =>
   simp only [shapeB, Bool.and_eq_true, decide_eq_true_eq] at h
   exact ⟨z, r, by rw [h.1], h.2⟩
theorem shape_str {is : List IV} {ks : List CK} (h : shapeB is (.str :: ks) = true) : ∃ z r, is = .str z :: r ∧ shapeB r ks = true := by
 match is, h with
 | .str z :: r, h =>
   simp only [shapeB] at h
   exact ⟨z, r, rfl, h⟩
theorem shape_nil {is : List IV} (h : shapeB is [] = true) : is = [] := by
 cases is with
 | nil => rfl
 | cons a r => cases a <;> simp [shapeB] at h
theorem eqs_ok : EqsOK Tryd.prog eqs := by
 intro t ks h w x y is js xs ys Q h1 h2 h3 h4
 unfold eqs at h
 split at h
 · rename_i ht
   simp only [Option.some.injEq] at h
   subst h
   subst ht
   obtain ⟨a, _, rfl, ph11⟩ := shape_int h1
   obtain ⟨b, _, rfl, ph12⟩ := shape_int ph11
   obtain ⟨c, _, rfl, ph13⟩ := shape_int ph12
   obtain ⟨d, _, rfl, ph21⟩ := shape_int h2
   obtain ⟨e, _, rfl, ph22⟩ := shape_int ph21
   obtain ⟨f, _, rfl, ph23⟩ := shape_int ph22
   obtain rfl := shape_nil ph13
   obtain rfl := shape_nil ph23
   · simp only [RepC, RepI] at h3 h4
     obtain ⟨_, _, rfl, _, rfl, _, _, rfl, _, rfl, _, _, rfl, _, rfl, rfl⟩ := h3
     obtain ⟨_, _, rfl, _, rfl, _, _, rfl, _, rfl, _, _, rfl, _, rfl, rfl⟩ := h4
     refine ⟨run_eqGuard_agg w _ _ _ _ _ _ (by kernel_rfl), run_eqGuard_agg w _ _ _ _ _ _ (by kernel_rfl), ?_⟩
     have := eq_id 9998 a b c d e f w
     exact ⟨by simpa [Op.equal, Op.maxDepth, eqC] using this, fun em => chk_id em 9998 a b c w⟩
 · split at h
   · rename_i ht
     simp only [Option.some.injEq] at h
     subst h
     subst ht
     obtain ⟨s, _, rfl, ph11⟩ := shape_str h1
     obtain ⟨a, _, rfl, ph12⟩ := shape_int ph11
     obtain ⟨b, _, rfl, ph13⟩ := shape_int ph12
     obtain ⟨c, _, rfl, ph14⟩ := shape_int ph13
     obtain ⟨t, _, rfl, ph21⟩ := shape_str h2
     obtain ⟨d, _, rfl, ph22⟩ := shape_int ph21
     obtain ⟨e, _, rfl, ph23⟩ := shape_int ph22
     obtain ⟨f, _, rfl, ph24⟩ := shape_int ph23
     obtain rfl := shape_nil ph14
     obtain rfl := shape_nil ph24
     · simp only [RepC, RepI] at h3 h4
       obtain ⟨_, _, rfl, _, rfl, _, _, rfl, _, rfl, _, _, rfl, _, rfl, _, _, rfl, _, rfl, rfl⟩ := h3
       obtain ⟨_, _, rfl, _, rfl, _, _, rfl, _, rfl, _, _, rfl, _, rfl, _, _, rfl, _, rfl, rfl⟩ := h4
       refine ⟨run_eqGuard_agg w _ _ _ _ _ _ (by kernel_rfl), run_eqGuard_agg w _ _ _ _ _ _ (by kernel_rfl), ?_⟩
       have := eq_word 9997 s t a b c d e f w
       exact ⟨by simpa [Op.equal, Op.maxDepth, eqC] using this, fun em => chk_word em 9997 s a b c w⟩
   · cases h
end Go.Proofs.YtopohipcpomecaaDoor.Pu
