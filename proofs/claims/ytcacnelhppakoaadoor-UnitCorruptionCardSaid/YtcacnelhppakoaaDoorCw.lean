/-
  UnitCorruption, as a call of plain values.
-/
import Derived.Test.YtcacnelhppakoaaDoorCm
namespace Go.Proofs.YtcacnelhppakoaaDoor.Pu
open Go Go.Pv
open Lab Lcs Go.Proofs.YtcacnelhppakoaaDoor
set_option linter.unusedSimpArgs false
def ucells (u : Ut) : List PV := [.imm (.int .i64 u.id.x), .imm (.int .i64 u.id.y), .imm (.int .i64 u.id.z), .imm (.int .i64 u.kind), .imm (.str u.label), .imm (.sl 4 (u.head.map wdv)), .imm (.sl 4 (u.words.map wdv)), .imm (.sl 8 (u.kids.map uv))]
theorem belowL_imm (m : Nat) : ∀ l : List IV, belowL m (l.map PV.imm) = true
  | [] => by simp [belowL]
  | a :: l => by simp only [List.map_cons, belowL, belowB, Bool.true_and]; exact belowL_imm m l
theorem belowL_imms {α : Type} (m : Nat) (f : α → IV) : ∀ l : List α, belowL m (l.map (PV.imm ∘ f)) = true
  | [] => by simp [belowL]
  | a :: l => by simp only [List.map_cons, belowL, Function.comp, belowB, Bool.true_and]; exact belowL_imms m f l
set_option maxRecDepth 100000 in
set_option maxHeartbeats 4000000 in
theorem corr_pc (X : Env) (hX : X = envU) (u : Ut) (hok : okU u) (at' how : Int) : PC Tryd.prog X 7 [uv u, .int .i64 at', .int .i64 how] [.bool true] := by
  subst hX
  have hF := few_pc envU rfl u 60 hok (by omega) (by omega)
  have hA := awake_pc
  have hue := uv_eq u
  rw [hue] at hF ⊢
  refine PC.of_body eqs_ok Tryd.func7 rfl rfl ?_
  intro Γ hΓ _
  rw [Tryd.ntmps7]
  apply awp_reg_seq [] mixed
  · (conv => lhs; simp [goR, nal, dead, List.replicate, runO, effO, wantE, evr, trOf, tmpOf, brOf, gtr, absOp, isCall, isAlloc, refP, nextId, nextCr, applyE, setE, setB, Go.Pv.val, partP, partI, norm, imms, cellsP, cellsI, pconst, constOf, pev, Op.operands, Call.operands, binP, binInt, binStr, obsOf, shOf, ans, resP, fillP, slotsP, sizesB, srcP, notRef, bound, shapeB, eqC, most, td_unit, td_units, td_int, td_bool, td_str, td_words, td_word]); try rfl
  · rfl
  · trivial
  refine awp_seq fun K hK => ?_
  apply awp_reg_seq [ans [.bool true]] mixed
  · (conv => lhs; simp [goR, nal, dead, List.replicate, runO, effO, wantE, evr, trOf, tmpOf, brOf, gtr, absOp, isCall, isAlloc, refP, nextId, nextCr, applyE, setE, setB, Go.Pv.val, partP, partI, norm, imms, cellsP, cellsI, pconst, constOf, pev, Op.operands, Call.operands, binP, binInt, binStr, obsOf, shOf, ans, resP, fillP, slotsP, sizesB, srcP, notRef, bound, shapeB, eqC, most, td_unit, td_units, td_int, td_bool, td_str, td_words, td_word]); try rfl
  · rfl
  · exact PC.fcalls (hΓ ▸ hA)
  refine awp_cond (b := _) rfl (fun ht => by simp at ht) (fun hf => awp_skip (hK _ ?_))
  refine awp_seq fun K hK => ?_
  by_cases hfew : fewU u 60 = true
  · have hs := few_small (m := 60) hfew
    have hfi := small_fine hs (by omega) hok
    have hV := valid_pc u hok (hs.tame (by omega))
    rw [hue] at hV
    by_cases hv : validB u = true
    · by_cases ha : at' < 0
      · skip
        apply awp_reg_seq [ans [.bool true], ans [.bool true]] mixed
        · (conv => lhs; simp [goR, nal, dead, List.replicate, runO, effO, wantE, evr, trOf, tmpOf, brOf, gtr, absOp, isCall, isAlloc, refP, nextId, nextCr, applyE, setE, setB, Go.Pv.val, partP, partI, norm, imms, cellsP, cellsI, pconst, constOf, pev, Op.operands, Call.operands, binP, binInt, binStr, obsOf, shOf, ans, resP, fillP, slotsP, sizesB, srcP, notRef, bound, shapeB, eqC, most, td_unit, td_units, td_int, td_bool, td_str, td_words, td_word, hfew, hv, ha]); try rfl
        · rfl
        · simp only [AllObs]; exact ⟨PC.fcalls (hΓ ▸ (hfew ▸ hF)), PC.fcalls (hΓ ▸ (hv ▸ hV))⟩
        refine awp_cond (b := _) rfl (fun ht => ?_) (fun hf => by simp at hf)
        apply awp_reg_seq [] mixed
        · (conv => lhs; simp [goR, nal, dead, List.replicate, runO, effO, wantE, evr, trOf, tmpOf, brOf, gtr, absOp, isCall, isAlloc, refP, nextId, nextCr, applyE, setE, setB, Go.Pv.val, partP, partI, norm, imms, cellsP, cellsI, pconst, constOf, pev, Op.operands, Call.operands, binP, binInt, binStr, obsOf, shOf, ans, resP, fillP, slotsP, sizesB, srcP, notRef, bound, shapeB, eqC, most, td_unit, td_units, td_int, td_bool, td_str, td_words, td_word]); try rfl
        · rfl
        · trivial
        refine awp_ret (show retP _ Tryd.f7 _ .ret _ from ret1 Tryd.results7 (i := .bool true) ?_ (ILe.refl _))
        simp [valR, frz]
      · by_cases hl : u.kids.length ≤ at'
        · skip
          apply awp_reg_seq [ans [.bool true], ans [.bool true]] mixed
          · (conv => lhs; simp [goR, nal, dead, List.replicate, runO, effO, wantE, evr, trOf, tmpOf, brOf, gtr, absOp, isCall, isAlloc, refP, nextId, nextCr, applyE, setE, setB, Go.Pv.val, partP, partI, norm, imms, cellsP, cellsI, pconst, constOf, pev, Op.operands, Call.operands, binP, binInt, binStr, obsOf, shOf, ans, resP, fillP, slotsP, sizesB, srcP, notRef, bound, shapeB, eqC, most, td_unit, td_units, td_int, td_bool, td_str, td_words, td_word, hfew, hv, ha, hl]); try rfl
          · rfl
          · simp only [AllObs]; exact ⟨PC.fcalls (hΓ ▸ (hfew ▸ hF)), PC.fcalls (hΓ ▸ (hv ▸ hV))⟩
          refine awp_cond (b := _) rfl (fun ht => ?_) (fun hf => by simp at hf)
          apply awp_reg_seq [] mixed
          · (conv => lhs; simp [goR, nal, dead, List.replicate, runO, effO, wantE, evr, trOf, tmpOf, brOf, gtr, absOp, isCall, isAlloc, refP, nextId, nextCr, applyE, setE, setB, Go.Pv.val, partP, partI, norm, imms, cellsP, cellsI, pconst, constOf, pev, Op.operands, Call.operands, binP, binInt, binStr, obsOf, shOf, ans, resP, fillP, slotsP, sizesB, srcP, notRef, bound, shapeB, eqC, most, td_unit, td_units, td_int, td_bool, td_str, td_words, td_word]); try rfl
          · rfl
          · trivial
          refine awp_ret (show retP _ Tryd.f7 _ .ret _ from ret1 Tryd.results7 (i := .bool true) ?_ (ILe.refl _))
          simp [valR, frz]
        · skip
          apply awp_reg_seq [ans [.bool true], ans [.bool true]] mixed
          · (conv => lhs; simp [goR, nal, dead, List.replicate, runO, effO, wantE, evr, trOf, tmpOf, brOf, gtr, absOp, isCall, isAlloc, refP, nextId, nextCr, applyE, setE, setB, Go.Pv.val, partP, partI, norm, imms, cellsP, cellsI, pconst, constOf, pev, Op.operands, Call.operands, binP, binInt, binStr, obsOf, shOf, ans, resP, fillP, slotsP, sizesB, srcP, notRef, bound, shapeB, eqC, most, td_unit, td_units, td_int, td_bool, td_str, td_words, td_word, hfew, hv, ha, hl]); try rfl
          · rfl
          · simp only [AllObs]; exact ⟨PC.fcalls (hΓ ▸ (hfew ▸ hF)), PC.fcalls (hΓ ▸ (hv ▸ hV))⟩
          refine awp_cond (b := _) rfl (fun ht => by simp at ht) (fun hf => awp_skip (hK _ ?_))
          clear hK hf
          obtain ⟨k, rfl⟩ : ∃ k : Nat, at' = (k : Int) := ⟨at'.toNat, by omega⟩
          have hlt : k < u.kids.length := by omega
          obtain ⟨x, hx⟩ : ∃ x, u.kids[k]? = some x := ⟨u.kids[k], List.getElem?_eq_getElem hlt⟩
          have hkc := kid_lt' hx
          have hlen : u.kids.length ≤ 1000000000 := by have := hs.1; omega
          have hxe := uv_eq x
          have hxf := hfi.kids.at hx
          have hxa : x ∈ u.all := by rw [Ut.all_eq]; exact List.mem_cons_of_mem _ (mem_alls.2 ⟨x, List.mem_of_getElem? hx, self_all x⟩)
          have hxs := List.all_eq_true.1 hs.2.2 x hxa
          simp only [fewB, shortB, Bool.and_eq_true, decide_eq_true_eq] at hxs
          have hsz : (⟨#[48]⟩ : ByteArray).size + x.label.size ≤ 1000000000 := by have : (⟨#[48]⟩ : ByteArray).size = 1 := rfl; omega
          have hwl : x.words.length + 1 ≤ 1000000000 := by omega
          have hwl0 : x.words.length ≤ 1000000000 := by omega
          have hx' : u.kids[k] = x := (List.getElem?_eq_some_iff.1 hx).2
          apply awp_reg_seq [] mixed
          · (conv => lhs; simp [goR, nal, dead, List.replicate, runO, effO, wantE, evr, trOf, tmpOf, brOf, gtr, absOp, isCall, isAlloc, refP, nextId, nextCr, applyE, setE, setB, Go.Pv.val, partP, partI, norm, imms, cellsP, cellsI, pconst, constOf, pev, Op.operands, Call.operands, binP, binInt, binStr, obsOf, shOf, ans, resP, fillP, slotsP, sizesB, srcP, notRef, bound, shapeB, eqC, most, td_unit, td_units, td_int, td_bool, td_str, td_words, td_word]); try rfl
          · rfl
          · trivial
          apply awp_reg_seq [] mixed
          · (conv => lhs; simp [goR, nal, dead, List.replicate, runO, effO, wantE, evr, trOf, tmpOf, brOf, gtr, absOp, isCall, isAlloc, refP, nextId, nextCr, applyE, setE, setB, Go.Pv.val, partP, partI, norm, imms, cellsP, cellsI, pconst, constOf, pev, Op.operands, Call.operands, binP, binInt, binStr, obsOf, shOf, ans, resP, fillP, slotsP, sizesB, srcP, notRef, bound, shapeB, eqC, most, td_unit, td_units, td_int, td_bool, td_str, td_words, td_word, hlen]); try rfl
          · rfl
          · trivial
          refine awp_weak (m := 3) (E' := [.any, .imm (.int .i64 (k : Int)), .imm (.int .i64 how), .ptr 0 1 0, .any, .any, .any, .ptr 1 1 0, .any, .any, .any, .any, .any, .any, .any, .any, .any, .any, .any, .any, .any, .any, .any, .any, .any, .any, .any, .any, .any, .any, .any, .any, .any, .any, .any, .any, .any, .any, .any, .any, .any, .any, .any, .any, .any, .any, .any, .any, .any, .any, .any, .any, .any, .any, .any, .any, .any, .any, .any, .any, .any, .any, .any, .any, .any, .any, .any, .any, .any, .any, .any, .any, .any, .any, .any, .any, .any, .any, .any, .any, .any, .any, .any, .any, .any, .any, .any, .any, .any, .any, .any, .any, .any, .any, .any, .any, .any, .any, .any, .any, .any, .any, .any, .any, .any, .any, .any, .any, .any, .any, .any, .any, .any]) rfl rfl (by simp [blkBelow, belowB, belowL, belowL_imms]) (by repeat (first | exact Wk.nil | exact Wk.drop (by assumption) | refine Wk.keep rfl ?_ | refine Wk.drop ?_)) ?_
          refine awp_seq fun K hK => ?_
          have fin : ∀ (E1 : List PV) (B1 : List Blk) (E : List PV) (B : List Blk) (g : Nat) (es : List PV) (l : List Ut), (∀ a w, γ Γ ⟨E1, B1⟩ a w → γ Γ ⟨E, B⟩ a w) → B.take 3 = [.box 1 [.imm (.int .i64 u.id.x), .imm (.int .i64 u.id.y), .imm (.int .i64 u.id.z), .imm (.int .i64 u.kind), .imm (.str u.label), .imm (.sl 4 (u.head.map wdv)), .imm (.sl 4 (u.words.map wdv)), .imm (.sl 8 (u.kids.map uv))], .box 1 [.imm (.int .i64 u.id.x), .imm (.int .i64 u.id.y), .imm (.int .i64 u.id.z), .imm (.int .i64 u.kind), .imm (.str u.label), .imm (.sl 4 (u.head.map wdv)), .imm (.sl 4 (u.words.map wdv)), .row 2 g], .row 27 8 g es] → Wk 3 E [.any, .any, .any, .ptr 0 1 0, .any, .any, .any, .ptr 1 1 0, .any, .any, .any, .any, .any, .any, .any, .any, .any, .any, .any, .any, .any, .any, .any, .any, .any, .any, .any, .any, .any, .any, .any, .any, .any, .any, .any, .any, .any, .any, .any, .any, .any, .any, .any, .any, .any, .any, .any, .any, .any, .any, .any, .any, .any, .any, .any, .any, .any, .any, .any, .any, .any, .any, .any, .any, .any, .any, .any, .any, .any, .any, .any, .any, .any, .any, .any, .any, .any, .any, .any, .any, .any, .any, .any, .any, .any, .any, .any, .any, .any, .any, .any, .any, .any, .any, .any, .any, .any, .any, .any, .any, .any, .any, .any, .any, .any, .any, .any, .any, .any, .any, .any, .any, .any] → (∃ is, es = is.map .imm ∧ ILes is (l.map uv)) → validB (Ut.withKids u l) = false → Fines l → Ut.counts l ≤ 1000000 → K ⟨E1, B1⟩ := by
            rintro E1 B1 E B g es l hw hB hE ⟨is, hes, hle⟩ hvl hfl hcl
            refine hK _ fun hX a w hg => ?_
            refine (?_ : AWp Tryd.prog Γ _ ⟨E, B⟩ _) hX a w (hw a w hg)
            have hfk : Fine (Ut.withKids u l) := Fine.mk (u := Ut.withKids u l) ⟨hfi.self.1, hfi.self.2⟩ hfl
            have hV2 := valid_pc (Ut.withKids u l) hfk.ok (hfk.tame (by rw [withKids_count]; omega))
            rw [uv_eq, hvl] at hV2
            simp only [Ut.withKids, Ut.id, Ut.kind, Ut.label, Ut.head, Ut.words, Ut.kids] at hV2
            refine awp_weak (m := 3) hB rfl (by subst hes; simp [blkBelow, belowB, belowL, belowL_imm]) hE ?_
            refine awp_frz (E' := [.any, .any, .any, .ptr 0 1 0, .any, .any, .any, .ptr 1 1 0, .any, .any, .any, .any, .any, .any, .any, .any, .any, .any, .any, .any, .any, .any, .any, .any, .any, .any, .any, .any, .any, .any, .any, .any, .any, .any, .any, .any, .any, .any, .any, .any, .any, .any, .any, .any, .any, .any, .any, .any, .any, .any, .any, .any, .any, .any, .any, .any, .any, .any, .any, .any, .any, .any, .any, .any, .any, .any, .any, .any, .any, .any, .any, .any, .any, .any, .any, .any, .any, .any, .any, .any, .any, .any, .any, .any, .any, .any, .any, .any, .any, .any, .any, .any, .any, .any, .any, .any, .any, .any, .any, .any, .any, .any, .any, .any, .any, .any, .any, .any, .any, .any, .any, .any, .any]) (B' := [.box 1 [.imm (.int .i64 u.id.x), .imm (.int .i64 u.id.y), .imm (.int .i64 u.id.z), .imm (.int .i64 u.kind), .imm (.str u.label), .imm (.sl 4 (u.head.map wdv)), .imm (.sl 4 (u.words.map wdv)), .imm (.sl 8 (u.kids.map uv))], .box 1 [.imm (.int .i64 u.id.x), .imm (.int .i64 u.id.y), .imm (.int .i64 u.id.z), .imm (.int .i64 u.kind), .imm (.str u.label), .imm (.sl 4 (u.head.map wdv)), .imm (.sl 4 (u.words.map wdv)), .imm (.sl 8 (l.map uv))], .dead g]) 2 rfl (by rw [hes]; exact imms_map _) hle.sl (by simp [fzL, fz]) (by simp [fzB, fzL, fz]) ?_
            apply awp_reg_seq [ans [.bool false], ans [.bool true]] mixed
            · (conv => lhs; simp [goR, nal, dead, List.replicate, runO, effO, wantE, evr, trOf, tmpOf, brOf, gtr, absOp, isCall, isAlloc, refP, nextId, nextCr, applyE, setE, setB, Go.Pv.val, partP, partI, norm, imms, cellsP, cellsI, pconst, constOf, pev, Op.operands, Call.operands, binP, binInt, binStr, obsOf, shOf, ans, resP, fillP, slotsP, sizesB, srcP, notRef, bound, shapeB, eqC, most, td_unit, td_units, td_int, td_bool, td_str, td_words, td_word, hv]); try rfl
            · rfl
            · simp only [AllObs]; exact ⟨PC.fcalls (hΓ ▸ hV2), PC.fcalls (hΓ ▸ (hv ▸ hV))⟩
            refine awp_ret1 Tryd.results7 (i := .bool true) ?_ (ILe.refl _)
            simp [valR, frz]
          clear hK
          apply awp_reg_seq [] mixed
          · (conv => lhs; simp [goR, nal, dead, List.replicate, runO, effO, wantE, evr, trOf, tmpOf, brOf, gtr, absOp, isCall, isAlloc, refP, nextId, nextCr, applyE, setE, setB, Go.Pv.val, partP, partI, norm, imms, cellsP, cellsI, pconst, constOf, pev, Op.operands, Call.operands, binP, binInt, binStr, obsOf, shOf, ans, resP, fillP, slotsP, sizesB, srcP, notRef, bound, shapeB, eqC, most, td_unit, td_units, td_int, td_bool, td_str, td_words, td_word]); try rfl
          · rfl
          · trivial
          refine awp_block ?_
          apply awp_reg_seq [] mixed
          · (conv => lhs; simp [goR, nal, dead, List.replicate, runO, effO, wantE, evr, trOf, tmpOf, brOf, gtr, absOp, isCall, isAlloc, refP, nextId, nextCr, applyE, setE, setB, Go.Pv.val, partP, partI, norm, imms, cellsP, cellsI, pconst, constOf, pev, Op.operands, Call.operands, binP, binInt, binStr, obsOf, shOf, ans, resP, fillP, slotsP, sizesB, srcP, notRef, bound, shapeB, eqC, most, td_unit, td_units, td_int, td_bool, td_str, td_words, td_word]); try rfl
          · rfl
          · trivial
          refine awp_cond (b := _) rfl (fun ht => ?_) (fun hf => ?_)
          · have hl1 : u.kids.length + 1 ≤ 1000000000 := by have := hs.1; omega
            apply awp_reg [] mixed
            · (conv => lhs; simp [goR, nal, dead, List.replicate, runO, effO, wantE, evr, trOf, tmpOf, brOf, gtr, absOp, isCall, isAlloc, refP, nextId, nextCr, applyE, setE, setB, Go.Pv.val, partP, partI, norm, imms, cellsP, cellsI, pconst, constOf, pev, Op.operands, Call.operands, binP, binInt, binStr, obsOf, shOf, ans, resP, fillP, slotsP, sizesB, srcP, notRef, bound, shapeB, eqC, most, td_unit, td_units, td_int, td_bool, td_str, td_words, td_word, hx', hxe, hlt, hl1]); try rfl
            · rfl
            · trivial
            refine fin _ _ _ _ _ _ (u.kids ++ [x]) (fun _ _ h => h) rfl (by repeat (first | exact Wk.nil | exact Wk.drop (by assumption) | refine Wk.keep rfl ?_ | refine Wk.drop ?_)) ⟨(u.kids ++ [x]).map uv, by simp [hxe], ILes.refl _⟩ (bad_dup (List.mem_of_getElem? hx)) (hfi.kids.add (hfi.kids.at hx)) ?_
            rw [counts_app, counts_one]
            have := hs.1
            have := Ut.count_eq u
            omega
          · skip
            apply awp_reg_seq [] mixed
            · (conv => lhs; simp [goR, nal, dead, List.replicate, runO, effO, wantE, evr, trOf, tmpOf, brOf, gtr, absOp, isCall, isAlloc, refP, nextId, nextCr, applyE, setE, setB, Go.Pv.val, partP, partI, norm, imms, cellsP, cellsI, pconst, constOf, pev, Op.operands, Call.operands, binP, binInt, binStr, obsOf, shOf, ans, resP, fillP, slotsP, sizesB, srcP, notRef, bound, shapeB, eqC, most, td_unit, td_units, td_int, td_bool, td_str, td_words, td_word]); try rfl
            · rfl
            · trivial
            refine awp_cond (b := _) rfl (fun ht => ?_) (fun hf => ?_)
            · obtain ⟨y, hy⟩ : ∃ y : Ut, y = Ut.mk x.id x.kind (⟨#[48]⟩ ++ x.label) x.head x.words x.kids := ⟨_, rfl⟩
              have hyf : Fine y := by
                subst hy
                refine Fine.mk ⟨⟨?_, hxf.self.1.2.1, hxf.self.1.2.2⟩, hxf.self.2⟩ hxf.kids
                show (⟨#[48]⟩ ++ x.label : ByteArray).size ≤ _
                rw [ByteArray.size_append]
                have : (⟨#[48]⟩ : ByteArray).size = 1 := rfl
                omega
              have hye := (congrArg uv hy).trans (uv_mk _ _ _ _ _ _)
              apply awp_reg [] mixed
              · (conv => lhs; simp [goR, nal, dead, List.replicate, runO, effO, wantE, evr, trOf, tmpOf, brOf, gtr, absOp, isCall, isAlloc, refP, nextId, nextCr, applyE, setE, setB, Go.Pv.val, partP, partI, norm, imms, cellsP, cellsI, pconst, constOf, pev, Op.operands, Call.operands, binP, binInt, binStr, obsOf, shOf, ans, resP, fillP, slotsP, sizesB, srcP, notRef, bound, shapeB, eqC, most, td_unit, td_units, td_int, td_bool, td_str, td_words, td_word, hx', hxe, hlt, hsz]); try rfl
              · rfl
              · trivial
              refine fin _ _ _ _ _ _ (u.kids.set k y) (fun _ _ h => h) rfl (by repeat (first | exact Wk.nil | exact Wk.drop (by assumption) | refine Wk.keep rfl ?_ | refine Wk.drop ?_)) ⟨(u.kids.set k y).map uv, by rw [List.map_set, hye]; simp [List.map_set, joinP, norm, imms, wdv, Trip.zero], ILes.refl _⟩ (bad_kid (x := y) (List.mem_of_getElem? (i := k) (List.getElem?_set_self hlt)) ?_) (hfi.kids.set k hyf) ?_
              · left; subst hy; exact alone_zero_label (nest_book (valid_kid hv (List.mem_of_getElem? hx)).2)
              · have h1 := counts_set u.kids k y
                have h2 := hs.1
                have h3 := Ut.count_eq u
                have h4 : y.count ≤ x.count := by
                  subst hy
                  have := Ut.count_eq x
                  have := count_pos x
                  rw [count_mk]
                  try simp only [Ut.counts]
                  omega
                omega
            · skip
              apply awp_reg_seq [] mixed
              · (conv => lhs; simp [goR, nal, dead, List.replicate, runO, effO, wantE, evr, trOf, tmpOf, brOf, gtr, absOp, isCall, isAlloc, refP, nextId, nextCr, applyE, setE, setB, Go.Pv.val, partP, partI, norm, imms, cellsP, cellsI, pconst, constOf, pev, Op.operands, Call.operands, binP, binInt, binStr, obsOf, shOf, ans, resP, fillP, slotsP, sizesB, srcP, notRef, bound, shapeB, eqC, most, td_unit, td_units, td_int, td_bool, td_str, td_words, td_word]); try rfl
              · rfl
              · trivial
              refine awp_cond (b := _) rfl (fun ht => ?_) (fun hf => ?_)
              · obtain ⟨y, hy⟩ : ∃ y : Ut, y = Ut.mk x.id u.kind x.label x.head x.words x.kids := ⟨_, rfl⟩
                have hyf : Fine y := by
                  subst hy
                  exact Fine.mk ⟨hxf.self.1, hxf.self.2.1, hfi.self.2.2⟩ hxf.kids
                have hye := (congrArg uv hy).trans (uv_mk _ _ _ _ _ _)
                have hfk : Fine (Ut.withKids u (u.kids.set k y)) := Fine.mk (u := Ut.withKids u (u.kids.set k y)) ⟨hfi.self.1, hfi.self.2⟩ (hfi.kids.set k hyf)
                have hV2 := valid_pc (Ut.withKids u (u.kids.set k y)) hfk.ok (hfk.tame (by
                  have h1 := counts_set u.kids k y
                  have h2 := hs.1
                  have h3 := Ut.count_eq u
                  have h4 := Ut.count_eq x
                  have h5 : y.count = x.count := by subst hy; rw [count_mk, h4]
                  rw [withKids_count]
                  omega))
                obtain ⟨b, hb⟩ : ∃ b, b = validB (Ut.withKids u (u.kids.set k y)) := ⟨_, rfl⟩
                rw [show uv (Ut.withKids u (u.kids.set k y)) = _ from uv_mk _ _ _ _ _ _, ← hb, List.map_set] at hV2
                apply awp_reg_seq [] mixed
                · (conv => lhs; simp [goR, nal, dead, List.replicate, runO, effO, wantE, evr, trOf, tmpOf, brOf, gtr, absOp, isCall, isAlloc, refP, nextId, nextCr, applyE, setE, setB, Go.Pv.val, partP, partI, norm, imms, cellsP, cellsI, pconst, constOf, pev, Op.operands, Call.operands, binP, binInt, binStr, obsOf, shOf, ans, resP, fillP, slotsP, sizesB, srcP, notRef, bound, shapeB, eqC, most, td_unit, td_units, td_int, td_bool, td_str, td_words, td_word, hx', hxe, hlt]); try rfl
                · rfl
                · trivial
                refine awp_frz (is := (u.kids.set k y).map uv) 2 rfl (imms_of (by rw [List.map_set, hye]; simp [joinP, norm, imms])) (ILe.refl _) (by (conv => lhs; simp [fzL, fz]); try rfl) (by (conv => lhs; simp [fzB, fzL, fz]); try rfl) ?_
                by_cases hk3 : u.kind = 3
                · rw [hk3] at hV2
                  apply awp_reg_seq [ans [.bool b], ans [.bool b]] mixed
                  · (conv => lhs; simp [goR, nal, dead, List.replicate, runO, effO, wantE, evr, trOf, tmpOf, brOf, gtr, absOp, isCall, isAlloc, refP, nextId, nextCr, applyE, setE, setB, Go.Pv.val, partP, partI, norm, imms, cellsP, cellsI, pconst, constOf, pev, Op.operands, Call.operands, binP, binInt, binStr, obsOf, shOf, ans, resP, fillP, slotsP, sizesB, srcP, notRef, bound, shapeB, eqC, most, td_unit, td_units, td_int, td_bool, td_str, td_words, td_word, hk3]); try rfl
                  · rfl
                  · simp only [AllObs]; exact ⟨PC.fcalls (hΓ ▸ hV2), PC.fcalls (hΓ ▸ hV2)⟩
                  refine awp_ret (show retP _ Tryd.f7 _ .ret _ from ret1 Tryd.results7 (i := .bool true) ?_ (ILe.refl _))
                  simp [valR, frz]
                · have hvf : validB (Ut.withKids u (u.kids.set k y)) = false := bad_kid (x := y) (List.mem_of_getElem? (i := k) (List.getElem?_set_self hlt)) (Or.inr (by subst hy; exact nest_self _ hk3))
                  rw [hb.trans hvf] at hV2
                  have hk4 : (u.kind == 3) = false := by simpa using hk3
                  apply awp_reg_seq [ans [.bool false]] mixed
                  · (conv => lhs; simp [goR, nal, dead, List.replicate, runO, effO, wantE, evr, trOf, tmpOf, brOf, gtr, absOp, isCall, isAlloc, refP, nextId, nextCr, applyE, setE, setB, Go.Pv.val, partP, partI, norm, imms, cellsP, cellsI, pconst, constOf, pev, Op.operands, Call.operands, binP, binInt, binStr, obsOf, shOf, ans, resP, fillP, slotsP, sizesB, srcP, notRef, bound, shapeB, eqC, most, td_unit, td_units, td_int, td_bool, td_str, td_words, td_word, hk4]); try rfl
                  · rfl
                  · exact PC.fcalls (hΓ ▸ hV2)
                  refine awp_ret (show retP _ Tryd.f7 _ .ret _ from ret1 Tryd.results7 (i := .bool true) ?_ (ILe.refl _))
                  simp [valR, frz]
              · skip
                apply awp_reg_seq [] mixed
                · (conv => lhs; simp [goR, nal, dead, List.replicate, runO, effO, wantE, evr, trOf, tmpOf, brOf, gtr, absOp, isCall, isAlloc, refP, nextId, nextCr, applyE, setE, setB, Go.Pv.val, partP, partI, norm, imms, cellsP, cellsI, pconst, constOf, pev, Op.operands, Call.operands, binP, binInt, binStr, obsOf, shOf, ans, resP, fillP, slotsP, sizesB, srcP, notRef, bound, shapeB, eqC, most, td_unit, td_units, td_int, td_bool, td_str, td_words, td_word]); try rfl
                · rfl
                · trivial
                refine awp_cond (b := _) rfl (fun ht => ?_) (fun hf => ?_)
                · obtain ⟨y, hy⟩ : ∃ y : Ut, y = Ut.mk .zero 0 ⟨#[]⟩ [] [] [] := ⟨_, rfl⟩
                  have hyf : Fine y := by
                    subst hy
                    exact Fine.mk ⟨⟨by decide, by decide, by decide⟩, by simp [Trip.ok, inI, Ut.id, Trip.zero], by simp [inI, Ut.kind]⟩ (fun z hz => by simp [Ut.kids, Ut.alls] at hz)
                  have hye := (congrArg uv hy).trans (uv_mk _ _ _ _ _ _)
                  apply awp_reg [] mixed
                  · (conv => lhs; simp [goR, nal, dead, List.replicate, runO, effO, wantE, evr, trOf, tmpOf, brOf, gtr, absOp, isCall, isAlloc, refP, nextId, nextCr, applyE, setE, setB, Go.Pv.val, partP, partI, norm, imms, cellsP, cellsI, pconst, constOf, pev, Op.operands, Call.operands, binP, binInt, binStr, obsOf, shOf, ans, resP, fillP, slotsP, sizesB, srcP, notRef, bound, shapeB, eqC, most, td_unit, td_units, td_int, td_bool, td_str, td_words, td_word, hx', hxe, hlt]); try rfl
                  · rfl
                  · trivial
                  refine fin _ _ _ _ _ _ (u.kids.set k y) (fun _ _ h => h) rfl (by repeat (first | exact Wk.nil | exact Wk.drop (by assumption) | refine Wk.keep rfl ?_ | refine Wk.drop ?_)) ⟨(u.kids.map uv).set k (.agg [.int .i64 0, .int .i64 0, .int .i64 0, .int .i64 0, .str ⟨#[]⟩, .nil, .nil, .nil]), by simp [List.map_set, joinP, norm, imms], by rw [List.map_set, hye]; exact ILes.set (ILes.agg (ILes.cons (ILe.refl _) (ILes.cons (ILe.refl _) (ILes.cons (ILe.refl _) (ILes.cons (ILe.refl _) (ILes.cons (ILe.refl _) (ILes.cons (ILe.nil 4) (ILes.cons (ILe.nil 4) (ILes.cons (ILe.nil 8) (ILes.refl [])))))))))) _ _⟩ (bad_kid (x := y) (List.mem_of_getElem? (i := k) (List.getElem?_set_self hlt)) ?_) (hfi.kids.set k hyf) ?_
                  · right; subst hy; exact nest_zero _
                  · have h1 := counts_set u.kids k y
                    have h2 := hs.1
                    have h3 := Ut.count_eq u
                    have h4 : y.count ≤ x.count := by
                      subst hy
                      have := Ut.count_eq x
                      have := count_pos x
                      rw [count_mk]
                      try simp only [Ut.counts]
                      omega
                    omega
                · skip
                  apply awp_reg_seq [] mixed
                  · (conv => lhs; simp [goR, nal, dead, List.replicate, runO, effO, wantE, evr, trOf, tmpOf, brOf, gtr, absOp, isCall, isAlloc, refP, nextId, nextCr, applyE, setE, setB, Go.Pv.val, partP, partI, norm, imms, cellsP, cellsI, pconst, constOf, pev, Op.operands, Call.operands, binP, binInt, binStr, obsOf, shOf, ans, resP, fillP, slotsP, sizesB, srcP, notRef, bound, shapeB, eqC, most, td_unit, td_units, td_int, td_bool, td_str, td_words, td_word]); try rfl
                  · rfl
                  · trivial
                  refine awp_cond (b := _) rfl (fun ht => ?_) (fun hf => ?_)
                  · obtain ⟨y, hy⟩ : ∃ y : Ut, y = Ut.mk x.id x.kind x.label x.head (x.words ++ [⟨⟨#[116, 119, 111, 32, 119, 111, 114, 100, 115]⟩, .zero⟩]) x.kids := ⟨_, rfl⟩
                    have hyf : Fine y := by
                      subst hy
                      refine Fine.mk ⟨⟨hxf.self.1.1, hxf.self.1.2.1, ?_⟩, hxf.self.2⟩ hxf.kids
                      show (x.words ++ [_]).length ≤ _
                      rw [List.length_append]
                      simp only [List.length_singleton]
                      omega
                    have hye := (congrArg uv hy).trans (uv_mk _ _ _ _ _ _)
                    apply awp_reg [] mixed
                    · (conv => lhs; simp [goR, nal, dead, List.replicate, runO, effO, wantE, evr, trOf, tmpOf, brOf, gtr, absOp, isCall, isAlloc, refP, nextId, nextCr, applyE, setE, setB, Go.Pv.val, partP, partI, norm, imms, cellsP, cellsI, pconst, constOf, pev, Op.operands, Call.operands, binP, binInt, binStr, obsOf, shOf, ans, resP, fillP, slotsP, sizesB, srcP, notRef, bound, shapeB, eqC, most, td_unit, td_units, td_int, td_bool, td_str, td_words, td_word, hx', hxe, hlt, hwl, hwl0]); try rfl
                    · rfl
                    · trivial
                    refine fin _ _ _ _ _ _ (u.kids.set k y) (fun a w h => γ_frz 3 (is := (x.words ++ [(⟨⟨#[116, 119, 111, 32, 119, 111, 114, 100, 115]⟩, .zero⟩ : Wd)]).map wdv) rfl (imms_of (by simp [wdv, Trip.zero])) (ILe.refl _) (by (conv => lhs; simp [fzL, fz]); try rfl) (by (conv => lhs; simp [fzB, fzL, fz, fzL_set, fzL_map, joinP, norm, imms]); try rfl) h) rfl (by repeat (first | exact Wk.nil | exact Wk.drop (by assumption) | refine Wk.keep rfl ?_ | refine Wk.drop ?_)) ⟨(u.kids.set k y).map uv, by rw [List.map_set, hye]; simp [List.map_set, joinP, norm, imms, wdv, Trip.zero], ILes.refl _⟩ (bad_kid (x := y) (List.mem_of_getElem? (i := k) (List.getElem?_set_self hlt)) ?_) (hfi.kids.set k hyf) ?_
                    · left; subst hy; exact alone_two_words
                    · have h1 := counts_set u.kids k y
                      have h2 := hs.1
                      have h3 := Ut.count_eq u
                      have h4 : y.count ≤ x.count := by
                        subst hy
                        have := Ut.count_eq x
                        have := count_pos x
                        rw [count_mk]
                        try simp only [Ut.counts]
                        omega
                      omega
                  · skip
                    apply awp_reg_seq [] mixed
                    · (conv => lhs; simp [goR, nal, dead, List.replicate, runO, effO, wantE, evr, trOf, tmpOf, brOf, gtr, absOp, isCall, isAlloc, refP, nextId, nextCr, applyE, setE, setB, Go.Pv.val, partP, partI, norm, imms, cellsP, cellsI, pconst, constOf, pev, Op.operands, Call.operands, binP, binInt, binStr, obsOf, shOf, ans, resP, fillP, slotsP, sizesB, srcP, notRef, bound, shapeB, eqC, most, td_unit, td_units, td_int, td_bool, td_str, td_words, td_word]); try rfl
                    · rfl
                    · trivial
                    refine awp_ret (show retP _ Tryd.f7 _ .ret _ from ret1 Tryd.results7 (i := .bool true) ?_ (ILe.refl _))
                    simp [valR, frz]
    · have hv' : validB u = false := by simpa using hv
      apply awp_reg_seq [ans [.bool true], ans [.bool false]] mixed
      · (conv => lhs; simp [goR, nal, dead, List.replicate, runO, effO, wantE, evr, trOf, tmpOf, brOf, gtr, absOp, isCall, isAlloc, refP, nextId, nextCr, applyE, setE, setB, Go.Pv.val, partP, partI, norm, imms, cellsP, cellsI, pconst, constOf, pev, Op.operands, Call.operands, binP, binInt, binStr, obsOf, shOf, ans, resP, fillP, slotsP, sizesB, srcP, notRef, bound, shapeB, eqC, most, td_unit, td_units, td_int, td_bool, td_str, td_words, td_word, hfew, hv']); try rfl
      · rfl
      · simp only [AllObs]; exact ⟨PC.fcalls (hΓ ▸ (hfew ▸ hF)), PC.fcalls (hΓ ▸ (hv' ▸ hV))⟩
      refine awp_cond (b := _) rfl (fun ht => ?_) (fun hf => by simp at hf)
      apply awp_reg_seq [] mixed
      · (conv => lhs; simp [goR, nal, dead, List.replicate, runO, effO, wantE, evr, trOf, tmpOf, brOf, gtr, absOp, isCall, isAlloc, refP, nextId, nextCr, applyE, setE, setB, Go.Pv.val, partP, partI, norm, imms, cellsP, cellsI, pconst, constOf, pev, Op.operands, Call.operands, binP, binInt, binStr, obsOf, shOf, ans, resP, fillP, slotsP, sizesB, srcP, notRef, bound, shapeB, eqC, most, td_unit, td_units, td_int, td_bool, td_str, td_words, td_word]); try rfl
      · rfl
      · trivial
      refine awp_ret (show retP _ Tryd.f7 _ .ret _ from ret1 Tryd.results7 (i := .bool true) ?_ (ILe.refl _))
      simp [valR, frz]
  · have hfew' : fewU u 60 = false := by simpa using hfew
    apply awp_reg_seq [ans [.bool false]] mixed
    · (conv => lhs; simp [goR, nal, dead, List.replicate, runO, effO, wantE, evr, trOf, tmpOf, brOf, gtr, absOp, isCall, isAlloc, refP, nextId, nextCr, applyE, setE, setB, Go.Pv.val, partP, partI, norm, imms, cellsP, cellsI, pconst, constOf, pev, Op.operands, Call.operands, binP, binInt, binStr, obsOf, shOf, ans, resP, fillP, slotsP, sizesB, srcP, notRef, bound, shapeB, eqC, most, td_unit, td_units, td_int, td_bool, td_str, td_words, td_word, hfew']); try rfl
    · rfl
    · exact PC.fcalls (hΓ ▸ (hfew' ▸ hF))
    refine awp_cond (b := _) rfl (fun ht => ?_) (fun hf => by simp at hf)
    apply awp_reg_seq [] mixed
    · (conv => lhs; simp [goR, nal, dead, List.replicate, runO, effO, wantE, evr, trOf, tmpOf, brOf, gtr, absOp, isCall, isAlloc, refP, nextId, nextCr, applyE, setE, setB, Go.Pv.val, partP, partI, norm, imms, cellsP, cellsI, pconst, constOf, pev, Op.operands, Call.operands, binP, binInt, binStr, obsOf, shOf, ans, resP, fillP, slotsP, sizesB, srcP, notRef, bound, shapeB, eqC, most, td_unit, td_units, td_int, td_bool, td_str, td_words, td_word]); try rfl
    · rfl
    · trivial
    refine awp_ret (show retP _ Tryd.f7 _ .ret _ from ret1 Tryd.results7 (i := .bool true) ?_ (ILe.refl _))
    simp [valR, frz]
end Go.Proofs.YtcacnelhppakoaaDoor.Pu
