/-
  Few, as a call of plain values.
-/
import Derived.Test.YtcacnelhppakoaaDoorBr
namespace Go.Proofs.YtcacnelhppakoaaDoor.Pu
open Go Go.Pv
open Lab Lcs Go.Proofs.YtcacnelhppakoaaDoor
mutual
/-- What the reference's size answers. -/
def sizeN : Ut → Int → Int → Int
  | .mk _ _ _ _ _ kids, d, m => if 20 < d then m + 1 else sizeL kids d m 1
def sizeL : List Ut → Int → Int → Int → Int
  | [], _, _, n => n
  | u :: r, d, m, n => if n ≤ m then sizeL r d m (n + sizeN u (d + 1) (m - n)) else n
end
theorem sizeN_eq (u : Ut) (d m : Int) : sizeN u d m = if 20 < d then m + 1 else sizeL u.kids d m 1 := by
  cases u; rw [sizeN]; rfl
mutual
theorem sizeN_pos : ∀ (u : Ut) (d m : Int), 0 ≤ m → 1 ≤ sizeN u d m ∧ sizeN u d m ≤ m + 1
  | .mk _ _ _ _ _ kids, d, m, hm => by
    rw [sizeN]
    split
    · omega
    · exact sizeL_pos kids d m 1 (by omega) (by omega)
theorem sizeL_pos : ∀ (l : List Ut) (d m n : Int), 1 ≤ n → n ≤ m + 1 → 1 ≤ sizeL l d m n ∧ sizeL l d m n ≤ m + 1
  | [], _, _, n, h1, h2 => by rw [sizeL]; omega
  | u :: r, d, m, n, h1, h2 => by
    rw [sizeL]
    split
    · have := sizeN_pos u (d + 1) (m - n) (by omega)
      exact sizeL_pos r d m _ (by omega) (by omega)
    · omega
end
mutual
theorem sizeN_few : ∀ (u : Ut) (d m : Int), 0 ≤ m → sizeN u d m ≤ m → sizeN u d m = u.count ∧ d + u.depth ≤ 20
  | .mk id kind label head words kids, d, m, hm, h => by
    rw [sizeN] at h ⊢
    split at h
    · omega
    · rename_i hd
      rw [if_neg hd]
      have := sizeL_few kids d m 1 (by omega) (by omega) h
      rw [count_mk, depth_mk]
      omega
theorem sizeL_few : ∀ (l : List Ut) (d m n : Int), 1 ≤ n → d ≤ 20 → sizeL l d m n ≤ m → sizeL l d m n = n + Ut.counts l ∧ d + Ut.depths l ≤ 20
  | [], d, m, n, h1, h2, h => by
    rw [sizeL] at h ⊢
    simp only [Ut.counts, Ut.depths]
    omega
  | u :: r, d, m, n, h1, h2, h => by
    rw [sizeL] at h ⊢
    split at h
    · rename_i hn
      rw [if_pos hn]
      have hp := sizeN_pos u (d + 1) (m - n) (by omega)
      have h3 := sizeL_few r d m (n + sizeN u (d + 1) (m - n)) (by omega) h2 h
      have h4 := sizeN_few u (d + 1) (m - n) (by omega) (by omega)
      simp only [Ut.counts, Ut.depths]
      omega
    · omega
end
set_option linter.unusedSimpArgs false
set_option maxHeartbeats 400000 in
theorem size_pc (X : Env) (N : Nat) : ∀ (u : Ut) (d m : Int), u.count ≤ N → 0 ≤ d → d ≤ 21 → 0 ≤ m → m ≤ 1000 → PC Tryd.prog X 69 [uv u, .int .i64 d, .int .i64 m] [.int .i64 (sizeN u d m)] := by
  induction N with
  | zero => intro u d m h; have := count_pos u; omega
  | succ N ih =>
  intro u d m hN h0 hd hm0 hm
  rw [uv_eq]
  refine PC.of_body eqs_ok Tryd.func69 rfl rfl ?_
  intro Γ hΓ _
  rw [Tryd.ntmps69]
  apply awp_reg_seq [] mixed
  · (conv => lhs; simp [goR, nal, dead, List.replicate, runO, effO, wantE, evr, trOf, tmpOf, brOf, gtr, absOp, isCall, isAlloc, refP, nextId, nextCr, applyE, setE, setB, Go.Pv.val, partP, partI, norm, imms, cellsP, cellsI, pconst, constOf, pev, Op.operands, Call.operands, binP, binInt, binStr, obsOf, shOf, ans, resP, fillP, slotsP, sizesB, srcP, notRef, bound, shapeB, eqC, most, isShift, td_unit, td_units, td_int, td_bool]); try rfl
  · rfl
  · trivial
  refine awp_seq fun K hK => ?_
  apply awp_reg_seq [] mixed
  · (conv => lhs; simp [goR, nal, dead, List.replicate, runO, effO, wantE, evr, trOf, tmpOf, brOf, gtr, absOp, isCall, isAlloc, refP, nextId, nextCr, applyE, setE, setB, Go.Pv.val, partP, partI, norm, imms, cellsP, cellsI, pconst, constOf, pev, Op.operands, Call.operands, binP, binInt, binStr, obsOf, shOf, ans, resP, fillP, slotsP, sizesB, srcP, notRef, bound, shapeB, eqC, most, isShift, td_unit, td_units, td_int, td_bool]); try rfl
  · rfl
  · trivial
  refine awp_cond (b := _) rfl (fun ht => ?_) (fun hf => ?_)
  · have hlt : 20 < d := by simpa using ht
    apply awp_reg_seq [] mixed
    · (conv => lhs; simp [goR, nal, dead, List.replicate, runO, effO, wantE, evr, trOf, tmpOf, brOf, gtr, absOp, isCall, isAlloc, refP, nextId, nextCr, applyE, setE, setB, Go.Pv.val, partP, partI, norm, imms, cellsP, cellsI, pconst, constOf, pev, Op.operands, Call.operands, binP, binInt, binStr, obsOf, shOf, ans, resP, fillP, slotsP, sizesB, srcP, notRef, bound, shapeB, eqC, most, isShift, td_unit, td_units, td_int, td_bool]); try rfl
    · rfl
    · trivial
    refine awp_ret (show retP _ Tryd.f69 _ .ret _ from ret1 Tryd.results69 (i := .int .i64 (sizeN u d m)) ?_ (ILe.refl _))
    rw [sizeN_eq, if_pos hlt]
    simp [valR, frz, wrap_in (z := m + 1) (by omega)]
  · have hle : ¬ 20 < d := by simpa using hf
    refine awp_skip (hK _ ?_)
    apply awp_reg_seq [] mixed
    · (conv => lhs; simp [goR, nal, dead, List.replicate, runO, effO, wantE, evr, trOf, tmpOf, brOf, gtr, absOp, isCall, isAlloc, refP, nextId, nextCr, applyE, setE, setB, Go.Pv.val, partP, partI, norm, imms, cellsP, cellsI, pconst, constOf, pev, Op.operands, Call.operands, binP, binInt, binStr, obsOf, shOf, ans, resP, fillP, slotsP, sizesB, srcP, notRef, bound, shapeB, eqC, most, isShift, td_unit, td_units, td_int, td_bool]); try rfl
    · rfl
    · trivial
    refine awp_seq fun K hK => ?_
    apply awp_reg_seq [] mixed
    · (conv => lhs; simp [goR, nal, dead, List.replicate, runO, effO, wantE, evr, trOf, tmpOf, brOf, gtr, absOp, isCall, isAlloc, refP, nextId, nextCr, applyE, setE, setB, Go.Pv.val, partP, partI, norm, imms, cellsP, cellsI, pconst, constOf, pev, Op.operands, Call.operands, binP, binInt, binStr, obsOf, shOf, ans, resP, fillP, slotsP, sizesB, srcP, notRef, bound, shapeB, eqC, most, isShift, td_unit, td_units, td_int, td_bool]); try rfl
    · rfl
    · trivial
    refine awp_block (awp_loop (fun p : {p : Nat × Int // p.1 ≤ u.kids.length ∧ p.1 + 1 ≤ p.2 ∧ p.2 ≤ m + 1 ∧ sizeL (u.kids.drop p.1) d m p.2 = sizeL u.kids d m 1} => ⟨[.any, .imm (.int .i64 d), .imm (.int .i64 m), .ptr 0 1 0, .any, .any, .any, .imm (.int .i64 p.1.2), .imm (.int .i64 (p.1.1 : Nat)), .any, .any, .any, .any, .any, .any, .any, .any, .any, .any, .any, .any, .any, .any, .any, .any, .any, .any, .any, .any, .any, .any, .any, .any, .any, .any, .any, .any, .any, .any], [.box 1 [.imm (.int .i64 u.id.x), .imm (.int .i64 u.id.y), .imm (.int .i64 u.id.z), .imm (.int .i64 u.kind), .imm (.str u.label), .imm (.sl 4 (u.head.map wdv)), .imm (.sl 4 (u.words.map wdv)), .imm (.sl 8 (u.kids.map uv))]]⟩) (fun p => u.kids.length - p.1.1) ⟨(0, 1), by simp; omega⟩ (fun a w h => γ_weak (m := 1) rfl rfl rfl (by repeat (first | exact Wk.nil | exact Wk.drop (by assumption) | refine Wk.keep rfl ?_ | refine Wk.drop ?_)) h) ?_)
    rintro ⟨⟨k, n⟩, hk, hkn, hn, hinv⟩
    dsimp only at hk hkn hn hinv ⊢
    by_cases hlt : k < u.kids.length
    · obtain ⟨x, hx⟩ : ∃ x, u.kids[k]? = some x := ⟨u.kids[k], List.getElem?_eq_getElem hlt⟩
      have hdrop : u.kids.drop k = x :: u.kids.drop (k + 1) := by
        rw [List.drop_eq_getElem_cons hlt]
        congr 1
        exact (List.getElem?_eq_some_iff.1 hx).2
      by_cases hnm : n ≤ m
      · have hue := uv_eq x
        have hp := sizeN_pos x (d + 1) (m - n) (by omega)
        have hkc := kid_lt' hx
        have hI := ih x (d + 1) (m - n) (by omega) (by omega) (by omega) (by omega) (by omega)
        rw [hdrop, sizeL, if_pos hnm] at hinv
        refine awp_seq fun K2 hK2 => ?_
        apply awp_reg_seq [] mixed
        · (conv => lhs; simp [goR, nal, dead, List.replicate, runO, effO, wantE, evr, trOf, tmpOf, brOf, gtr, absOp, isCall, isAlloc, refP, nextId, nextCr, applyE, setE, setB, Go.Pv.val, partP, partI, norm, imms, cellsP, cellsI, pconst, constOf, pev, Op.operands, Call.operands, binP, binInt, binStr, obsOf, shOf, ans, resP, fillP, slotsP, sizesB, srcP, notRef, bound, shapeB, eqC, most, isShift, td_unit, td_units, td_int, td_bool, hlt, hnm]); try rfl
        · rfl
        · trivial
        refine awp_cond (b := _) rfl (fun ht => awp_skip (hK2 _ ?_)) (fun hf => by simp at hf)
        refine awp_seq fun K3 hK3 => awp_block ?_
        apply awp_reg [ans [.int .i64 (sizeN x (d + 1) (m - n))]] mixed
        · (conv => lhs; simp [goR, nal, dead, List.replicate, runO, effO, wantE, evr, trOf, tmpOf, brOf, gtr, absOp, isCall, isAlloc, refP, nextId, nextCr, applyE, setE, setB, Go.Pv.val, partP, partI, norm, imms, cellsP, cellsI, pconst, constOf, pev, Op.operands, Call.operands, binP, binInt, binStr, obsOf, shOf, ans, resP, fillP, slotsP, sizesB, srcP, notRef, bound, shapeB, eqC, most, isShift, td_unit, td_units, td_int, td_bool, hx, hue, wrap_in (z := d + 1) (by omega), wrap_in (z := m - n) (by omega)]); try rfl
        · rfl
        · rw [hue] at hI; exact PC.fcalls (hΓ ▸ hI)
        refine hK3 _ ?_
        apply awp_reg [] mixed
        · (conv => lhs; simp [goR, nal, dead, List.replicate, runO, effO, wantE, evr, trOf, tmpOf, brOf, gtr, absOp, isCall, isAlloc, refP, nextId, nextCr, applyE, setE, setB, Go.Pv.val, partP, partI, norm, imms, cellsP, cellsI, pconst, constOf, pev, Op.operands, Call.operands, binP, binInt, binStr, obsOf, shOf, ans, resP, fillP, slotsP, sizesB, srcP, notRef, bound, shapeB, eqC, most, isShift, td_unit, td_units, td_int, td_bool]); try rfl
        · rfl
        · trivial
        rw [wrap_in (z := (k : Int) + 1) (by omega), wrap_in (z := n + sizeN x (d + 1) (m - n)) (by omega)]
        exact ⟨⟨(k + 1, n + sizeN x (d + 1) (m - n)), by simp only []; omega⟩, by simp only []; omega, fun a w h => γ_weak (m := 1) rfl rfl rfl (by repeat (first | exact Wk.nil | exact Wk.drop (by assumption) | refine Wk.keep rfl ?_ | refine Wk.drop ?_)) h⟩
      · have hz : sizeN u d m = n := by
          rw [sizeN_eq, if_neg hle, ← hinv, hdrop, sizeL, if_neg hnm]
        refine awp_seq fun K2 hK2 => ?_
        apply awp_reg_seq [] mixed
        · (conv => lhs; simp [goR, nal, dead, List.replicate, runO, effO, wantE, evr, trOf, tmpOf, brOf, gtr, absOp, isCall, isAlloc, refP, nextId, nextCr, applyE, setE, setB, Go.Pv.val, partP, partI, norm, imms, cellsP, cellsI, pconst, constOf, pev, Op.operands, Call.operands, binP, binInt, binStr, obsOf, shOf, ans, resP, fillP, slotsP, sizesB, srcP, notRef, bound, shapeB, eqC, most, isShift, td_unit, td_units, td_int, td_bool, hlt, hnm]); try rfl
        · rfl
        · trivial
        refine awp_cond (b := _) rfl (fun ht => by simp at ht) (fun hf => awp_exit ?_)
        refine (show K _ from hK _ ?_)
        apply awp_reg_seq [] mixed
        · (conv => lhs; simp [goR, nal, dead, List.replicate, runO, effO, wantE, evr, trOf, tmpOf, brOf, gtr, absOp, isCall, isAlloc, refP, nextId, nextCr, applyE, setE, setB, Go.Pv.val, partP, partI, norm, imms, cellsP, cellsI, pconst, constOf, pev, Op.operands, Call.operands, binP, binInt, binStr, obsOf, shOf, ans, resP, fillP, slotsP, sizesB, srcP, notRef, bound, shapeB, eqC, most, isShift, td_unit, td_units, td_int, td_bool]); try rfl
        · rfl
        · trivial
        refine awp_ret1 Tryd.results69 (i := .int .i64 (sizeN u d m)) ?_ (ILe.refl _)
        rw [hz]
        simp [valR, frz]
    · have hz : sizeN u d m = n := by
        rw [sizeN_eq, if_neg hle, ← hinv, List.drop_eq_nil_of_le (by omega), sizeL]
      refine awp_seq fun K2 hK2 => ?_
      apply awp_reg_seq [] mixed
      · (conv => lhs; simp [goR, nal, dead, List.replicate, runO, effO, wantE, evr, trOf, tmpOf, brOf, gtr, absOp, isCall, isAlloc, refP, nextId, nextCr, applyE, setE, setB, Go.Pv.val, partP, partI, norm, imms, cellsP, cellsI, pconst, constOf, pev, Op.operands, Call.operands, binP, binInt, binStr, obsOf, shOf, ans, resP, fillP, slotsP, sizesB, srcP, notRef, bound, shapeB, eqC, most, isShift, td_unit, td_units, td_int, td_bool, hlt]); try rfl
      · rfl
      · trivial
      refine awp_cond (b := _) rfl (fun ht => by simp at ht) (fun hf => awp_exit ?_)
      refine (show K _ from hK _ ?_)
      apply awp_reg_seq [] mixed
      · (conv => lhs; simp [goR, nal, dead, List.replicate, runO, effO, wantE, evr, trOf, tmpOf, brOf, gtr, absOp, isCall, isAlloc, refP, nextId, nextCr, applyE, setE, setB, Go.Pv.val, partP, partI, norm, imms, cellsP, cellsI, pconst, constOf, pev, Op.operands, Call.operands, binP, binInt, binStr, obsOf, shOf, ans, resP, fillP, slotsP, sizesB, srcP, notRef, bound, shapeB, eqC, most, isShift, td_unit, td_units, td_int, td_bool]); try rfl
      · rfl
      · trivial
      refine awp_ret1 Tryd.results69 (i := .int .i64 (sizeN u d m)) ?_ (ILe.refl _)
      rw [hz]
      simp [valR, frz]
def fewU (u : Ut) (m : Int) : Bool := decide (sizeN u 0 m ≤ m) && u.all.all fewB
set_option linter.unusedSimpArgs false in
theorem few_pc (X : Env) (hX : X = envU) (u : Ut) (m : Int) (hok : okU u) (h0 : 0 ≤ m) (hm : m ≤ 1000) : PC Tryd.prog X 18 [uv u, .int .i64 m] [.bool (fewU u m)] := by
  subst hX
  have hS := size_pc envU u.count u 0 m (Nat.le_refl _) (by omega) (by omega) h0 hm
  have hW := words_pc u hok
  have hue := uv_eq u
  rw [hue] at hS hW ⊢
  refine PC.of_body eqs_ok Tryd.func18 rfl rfl ?_
  intro Γ hΓ _
  rw [Tryd.ntmps18]
  apply awp_reg_seq [] mixed
  · (conv => lhs; simp [goR, nal, dead, List.replicate, runO, effO, wantE, evr, trOf, tmpOf, brOf, gtr, absOp, isCall, isAlloc, refP, nextId, nextCr, applyE, setE, setB, Go.Pv.val, partP, partI, norm, imms, cellsP, cellsI, pconst, constOf, pev, Op.operands, Call.operands, binP, binInt, binStr, obsOf, shOf, ans, resP, fillP, slotsP, sizesB, srcP, notRef, bound, shapeB, eqC, most, isShift, td_unit, td_units, td_int, td_bool]); try rfl
  · rfl
  · trivial
  by_cases hz : sizeN u 0 m ≤ m
  · skip
    apply awp_reg_seq [ans [.int .i64 (sizeN u 0 m)], ans [.bool (u.all.all fewB)]] mixed
    · (conv => lhs; simp [goR, nal, dead, List.replicate, runO, effO, wantE, evr, trOf, tmpOf, brOf, gtr, absOp, isCall, isAlloc, refP, nextId, nextCr, applyE, setE, setB, Go.Pv.val, partP, partI, norm, imms, cellsP, cellsI, pconst, constOf, pev, Op.operands, Call.operands, binP, binInt, binStr, obsOf, shOf, ans, resP, fillP, slotsP, sizesB, srcP, notRef, bound, shapeB, eqC, most, isShift, td_unit, td_units, td_int, td_bool, hz]); try rfl
    · rfl
    · simp only [AllObs]; exact ⟨PC.fcalls (hΓ ▸ hS), PC.fcalls (hΓ ▸ hW)⟩
    refine awp_ret1 Tryd.results18 (i := .bool (fewU u m)) ?_ (ILe.refl _)
    simp [valR, frz, fewU, hz]
  · skip
    apply awp_reg_seq [ans [.int .i64 (sizeN u 0 m)]] mixed
    · (conv => lhs; simp [goR, nal, dead, List.replicate, runO, effO, wantE, evr, trOf, tmpOf, brOf, gtr, absOp, isCall, isAlloc, refP, nextId, nextCr, applyE, setE, setB, Go.Pv.val, partP, partI, norm, imms, cellsP, cellsI, pconst, constOf, pev, Op.operands, Call.operands, binP, binInt, binStr, obsOf, shOf, ans, resP, fillP, slotsP, sizesB, srcP, notRef, bound, shapeB, eqC, most, isShift, td_unit, td_units, td_int, td_bool, hz]); try rfl
    · rfl
    · exact PC.fcalls (hΓ ▸ hS)
    refine awp_ret1 Tryd.results18 (i := .bool (fewU u m)) ?_ (ILe.refl _)
    simp [valR, frz, fewU, hz]
end Go.Proofs.YtcacnelhppakoaaDoor.Pu
