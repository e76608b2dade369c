/-
  Footnotes: types; anchors, by the program and by the reference. The labels of anchors; places in lists of strings; the note with a label. Which note an anchor calls: the maps of labels.
-/
import Derived.Test.YtkjgmnmngbfhhaaDoorVlf
namespace Go.Proofs.YtkjgmnmngbfhhaaDoor.Pn
open Go Go.Pv Go.RowKit Go.Proofs.YtkjgmnmngbfhhaaDoor.Pb
set_option linter.unusedSimpArgs false
open Lab Lcs Go.Proofs.YtkjgmnmngbfhhaaDoor Go.Proofs.YtkjgmnmngbfhhaaDoor.Pu
set_option maxRecDepth 10000
set_option maxHeartbeats 16000000
theorem tq_int : tdOf Tryd.prog 3 = some ⟨false, 1, [.int .i64 0], .int .i64⟩ := by kernel_rfl
theorem tq_string : tdOf Tryd.prog 9 = some ⟨false, 1, [.str ⟨#[]⟩], .str⟩ := by kernel_rfl
theorem tq_bool : tdOf Tryd.prog 4 = some ⟨false, 1, [.bool false], .bool⟩ := by kernel_rfl
theorem tq_uint8 : tdOf Tryd.prog 5 = some ⟨false, 1, [.int .u8 0], .int .u8⟩ := by kernel_rfl
theorem tq_s_uint8 : tdOf Tryd.prog 86 = some ⟨false, 1, [.nil], .slice 5 1 1⟩ := by kernel_rfl
theorem tq_apiId : tdOf Tryd.prog 23 = some ⟨true, 3, [.int .i64 0, .int .i64 0, .int .i64 0], .struct [(0, 1, false), (1, 1, false), (2, 1, false)]⟩ := by kernel_rfl
theorem tq_apiMark : tdOf Tryd.prog 50 = some ⟨true, 3, [.int .i64 0, .int .i64 0, .int .i64 0], .struct [(0, 1, false), (1, 1, false), (2, 1, false)]⟩ := by kernel_rfl
theorem tq_apiWord : tdOf Tryd.prog 52 = some ⟨true, 4, [.str ⟨#[]⟩, .int .i64 0, .int .i64 0, .int .i64 0], .struct [(0, 1, false), (1, 3, true)]⟩ := by kernel_rfl
theorem tq_apiUnit : tdOf Tryd.prog 27 = some ⟨true, 8, [.int .i64 0, .int .i64 0, .int .i64 0, .int .i64 0, .str ⟨#[]⟩, .nil, .nil, .nil], .struct [(0, 3, true), (3, 1, false), (4, 1, false), (5, 1, false), (6, 1, false), (7, 1, false)]⟩ := by kernel_rfl
theorem tq_s_apiUnit : tdOf Tryd.prog 25 = some ⟨false, 1, [.nil], .slice 27 8 120⟩ := by kernel_rfl
theorem tq_s_apiWord : tdOf Tryd.prog 24 = some ⟨false, 1, [.nil], .slice 52 4 40⟩ := by kernel_rfl
theorem tq_s_apiId : tdOf Tryd.prog 41 = some ⟨false, 1, [.nil], .slice 23 3 24⟩ := by kernel_rfl
theorem tq_s_string : tdOf Tryd.prog 33 = some ⟨false, 1, [.nil], .slice 9 1 16⟩ := by kernel_rfl
theorem tq_s_int : tdOf Tryd.prog 69 = some ⟨false, 1, [.nil], .slice 3 1 8⟩ := by kernel_rfl
theorem tq_footnoteanchor : tdOf Tryd.prog 63 = some ⟨true, 2, [.int .i64 0, .str ⟨#[]⟩], .struct [(0, 1, false), (1, 1, false)]⟩ := by kernel_rfl
theorem tq_s_footnoteanchor : tdOf Tryd.prog 60 = some ⟨false, 1, [.nil], .slice 63 2 24⟩ := by kernel_rfl
theorem tq_apiFinding : tdOf Tryd.prog 66 = some ⟨true, 6, [.int .i64 0, .int .i64 0, .int .i64 0, .int .i64 0, .int .i64 0, .str ⟨#[]⟩], .struct [(0, 1, false), (1, 3, true), (4, 1, false), (5, 1, false)]⟩ := by kernel_rfl
theorem tq_s_apiFinding : tdOf Tryd.prog 36 = some ⟨false, 1, [.nil], .slice 66 6 56⟩ := by kernel_rfl
theorem tq_apiErrno : tdOf Tryd.prog 48 = some ⟨false, 1, [.int .i64 0], .int .i64⟩ := by kernel_rfl
theorem tq_m_string_int : tdOf Tryd.prog 78 = some ⟨false, 1, [.nm], .map 9 3⟩ := by kernel_rfl
theorem tq_m_string_bool : tdOf Tryd.prog 80 = some ⟨false, 1, [.nm], .map 9 4⟩ := by kernel_rfl
theorem tq_m_int_bool : tdOf Tryd.prog 83 = some ⟨false, 1, [.nm], .map 3 4⟩ := by kernel_rfl
def tdl : List (TypeId × TD) := [(3, ⟨false, 1, [.int .i64 0], .int .i64⟩), (9, ⟨false, 1, [.str ⟨#[]⟩], .str⟩), (4, ⟨false, 1, [.bool false], .bool⟩), (5, ⟨false, 1, [.int .u8 0], .int .u8⟩), (86, ⟨false, 1, [.nil], .slice 5 1 1⟩), (23, ⟨true, 3, [.int .i64 0, .int .i64 0, .int .i64 0], .struct [(0, 1, false), (1, 1, false), (2, 1, false)]⟩), (50, ⟨true, 3, [.int .i64 0, .int .i64 0, .int .i64 0], .struct [(0, 1, false), (1, 1, false), (2, 1, false)]⟩), (52, ⟨true, 4, [.str ⟨#[]⟩, .int .i64 0, .int .i64 0, .int .i64 0], .struct [(0, 1, false), (1, 3, true)]⟩), (27, ⟨true, 8, [.int .i64 0, .int .i64 0, .int .i64 0, .int .i64 0, .str ⟨#[]⟩, .nil, .nil, .nil], .struct [(0, 3, true), (3, 1, false), (4, 1, false), (5, 1, false), (6, 1, false), (7, 1, false)]⟩), (25, ⟨false, 1, [.nil], .slice 27 8 120⟩), (24, ⟨false, 1, [.nil], .slice 52 4 40⟩), (41, ⟨false, 1, [.nil], .slice 23 3 24⟩), (33, ⟨false, 1, [.nil], .slice 9 1 16⟩), (69, ⟨false, 1, [.nil], .slice 3 1 8⟩), (63, ⟨true, 2, [.int .i64 0, .str ⟨#[]⟩], .struct [(0, 1, false), (1, 1, false)]⟩), (60, ⟨false, 1, [.nil], .slice 63 2 24⟩), (66, ⟨true, 6, [.int .i64 0, .int .i64 0, .int .i64 0, .int .i64 0, .int .i64 0, .str ⟨#[]⟩], .struct [(0, 1, false), (1, 3, true), (4, 1, false), (5, 1, false)]⟩), (36, ⟨false, 1, [.nil], .slice 66 6 56⟩), (48, ⟨false, 1, [.int .i64 0], .int .i64⟩), (78, ⟨false, 1, [.nm], .map 9 3⟩), (80, ⟨false, 1, [.nm], .map 9 4⟩), (83, ⟨false, 1, [.nm], .map 3 4⟩)]
theorem tdl_ok : AllTd Tryd.prog tdl := ⟨tq_int, tq_string, tq_bool, tq_uint8, tq_s_uint8, tq_apiId, tq_apiMark, tq_apiWord, tq_apiUnit, tq_s_apiUnit, tq_s_apiWord, tq_s_apiId, tq_s_string, tq_s_int, tq_footnoteanchor, tq_s_footnoteanchor, tq_apiFinding, tq_s_apiFinding, tq_apiErrno, tq_m_string_int, tq_m_string_bool, tq_m_int_bool, trivial⟩
def nwF (f : FuncId) : Nat := bif Nat.beq f 55 then 2 else 0
def tbn (fr : Nat → List Nat) (hk : Nat → Bool) : Tb := ⟨Pv.look tdl, eqs, fun _ => none, fr, hk, nwF⟩
abbrev tbf (fr : Nat → List Nat) : Tb := tbn fr fun _ => false
def tb0 : Tb := tbf fun _ => []
theorem tb_ok {fr : Nat → List Nat} {hk : Nat → Bool} : ∀ t d, (tbn fr hk).td t = some d → tdOf Tryd.prog t = some d := Pv.look_ok tdl_ok
def ancB (s : Str) : Bool := caretS s && mayL (restS s).data.toList
def ancS (s : Str) : Str := if ancB s then restS s else ⟨#[]⟩
def Ok1 (u : Ut) : Prop := u.words.length ≤ 100000 ∧ (∀ a ∈ u.words, a.text.size ≤ 100000) ∧ u.kids.length ≤ 100000
theorem take_at {α : Type} {l : List α} {k : Nat} {x : α} (hx : l[k]? = some x) : l.take (k + 1) = l.take k ++ [x] := by rw [List.take_add_one, hx]; rfl
theorem rest_size (s : Str) : (restS s).size ≤ s.size := by
 show ((s.data.toList.drop 1).toArray).size ≤ _
 simp
theorem parse_pc (s : Str) (hs : s.size ≤ 1000000) : PC Tryd.prog env0 12 [.str s] [.str (ancS s), .bool (ancB s)] := by
 have hC1 := cut_pc s
 have hV := valid_pc (restS s) (by have := rest_size s; omega)
 unfold ancS ancB
 cases hc : caretS s
 · rw [hc] at hC1
   simp only [Bool.false_and, Bool.false_eq_true, if_false] at hC1 ⊢
   refine PC.of_va (T := tb0) eqs_ok tb_ok rfl mixed Tryd.func12 rfl rfl (Nat.le_of_ble_eq_true rfl) ?_; intro Γ C WK LP fin h0 hW hC hB hR hLP hfin
   (try (conv => whnf)); (repeat ((first | refine qT ?_ | refine qF ?_ | refine qO ?_ | (with_reducible intro z hz); (first | (replace hz := hz (by omega); subst hz) | subst hz) | (refine CallV.mk _ (hC _ _ _ (PCw.of hC1)) (fun js hjs => ?_); subst hjs)); (try (conv => whnf))))
   exact hfin _ (ILes.refl _)
 · rw [hc] at hC1
   simp only [Bool.true_and, if_true] at hC1 ⊢
   cases hm : mayL (restS s).data.toList
   · rw [hm] at hV
     simp only [Bool.false_eq_true, if_false]
     refine PC.of_va (T := tb0) eqs_ok tb_ok rfl mixed Tryd.func12 rfl rfl (Nat.le_of_ble_eq_true rfl) ?_; intro Γ C WK LP fin h0 hW hC hB hR hLP hfin
     (try (conv => whnf)); (repeat ((first | refine qT ?_ | refine qF ?_ | refine qO ?_ | (with_reducible intro z hz); (first | (replace hz := hz (by omega); subst hz) | subst hz) | (refine CallV.mk _ (hC _ _ _ (PCw.of hC1)) (fun js hjs => ?_); subst hjs) | (refine CallV.mk _ (hC _ _ _ (PCw.of hV)) (fun js hjs => ?_); subst hjs)); (try (conv => whnf))))
     exact hfin _ (ILes.refl _)
   · rw [hm] at hV
     simp only [if_true]
     refine PC.of_va (T := tb0) eqs_ok tb_ok rfl mixed Tryd.func12 rfl rfl (Nat.le_of_ble_eq_true rfl) ?_; intro Γ C WK LP fin h0 hW hC hB hR hLP hfin
     (try (conv => whnf)); (repeat ((first | refine qT ?_ | refine qF ?_ | refine qO ?_ | (with_reducible intro z hz); (first | (replace hz := hz (by omega); subst hz) | subst hz) | (refine CallV.mk _ (hC _ _ _ (PCw.of hC1)) (fun js hjs => ?_); subst hjs) | (refine CallV.mk _ (hC _ _ _ (PCw.of hV)) (fun js hjs => ?_); subst hjs)); (try (conv => whnf))))
     exact hfin _ (ILes.refl _)
theorem caret_at (s : Str) (c : UInt8) (h : s.data[0]? = some c) : caretS s = decide (c = 94) := by
 unfold caretS
 have : s.data.toList.head? = some c := by rw [List.head?_eq_getElem?, Array.getElem?_toList]; exact h
 rw [this]
 by_cases hc : c = 94
 · subst hc; rfl
 · rw [decide_eq_false hc]
   simpa using hc
theorem rest_ext (s : Str) : s.extract 1 s.size = restS s := by
 have h1 : (s.extract 1 s.size).data.toList = (restS s).data.toList := by
   unfold restS
   rw [ByteArray.data_extract, Array.toList_extract, List.extract_eq_take_drop, List.take_of_length_le]
   rw [List.length_drop, Array.length_toList]
   exact Nat.le_refl _
 have h2 : (s.extract 1 s.size).data = (restS s).data := Array.ext' h1
 exact ByteArray.ext h2
theorem ranchor_pc (s : Str) (hs : s.size ≤ 1000000) : PC Tryd.prog env0 13 [.str s] [.str (ancS s), .bool (ancB s)] := by
 have hM := rmay_pc (restS s) (by have := rest_size s; omega)
 have hext := rest_ext s
 have hds : s.data.size = s.size := rfl
 by_cases h0 : s.size < 2
 · have hb : ancB s = false := by
     unfold ancB
     have : (restS s).data.toList = [] := by
       have h5 : s.data.toList.length < 2 := by rw [Array.length_toList]; exact h0
       show (s.data.toList.drop 1).toArray.toList = []
       rw [List.toList_toArray]
       exact List.drop_eq_nil_of_le (by omega)
     rw [this]
     show (caretS s && mayL []) = false
     rw [show mayL [] = false by decide, Bool.and_false]
   unfold ancS
   rw [hb]
   refine PC.of_va (T := tb0) eqs_ok tb_ok rfl mixed Tryd.func13 rfl rfl (Nat.le_of_ble_eq_true rfl) ?_; intro Γ C WK LP fin h0 hW hC hB hR hLP hfin
   (try (conv => whnf)); (repeat ((first | refine qT ?_ | refine qF ?_ | refine qO ?_ | (with_reducible intro z hz); (first | (replace hz := hz (by omega); subst hz) | subst hz)); (try (conv => whnf))))
   exact hfin _ (ILes.refl _)
 · obtain ⟨c0, hc0⟩ : ∃ c, s.data[0]? = some c := ⟨s.data[0]'(by rw [hds]; omega), Array.getElem?_eq_getElem _⟩
   have hca := caret_at s c0 hc0
   unfold ancS ancB
   by_cases hc : c0 = 94
   · rw [hca, decide_eq_true hc]
     simp only [Bool.true_and]
     have hz : ((c0.toNat : Nat) : Int) = 94 := by rw [hc]; rfl
     generalize mayL (restS s).data.toList = b at hM ⊢
     cases b
     · simp only [Bool.false_eq_true, if_false]
       refine PC.of_va (T := tb0) eqs_ok tb_ok rfl mixed Tryd.func13 rfl rfl (Nat.le_of_ble_eq_true rfl) ?_; intro Γ C WK LP fin h0 hW hC hB hR hLP hfin
       (try (conv => whnf)); (repeat ((first | refine qT ?_ | refine qF ?_ | refine qO ?_ | (with_reducible intro z hz); (first | (replace hz := hz (by omega); subst hz) | subst hz)); (try (conv => whnf))))
       intro c z hc hz2
       have hcc : c = c0 := Option.some.inj (hc.symm.trans (show s.data[Int.toNat 0]? = some c0 from hc0))
       subst hcc
       rw [hz] at hz2
       subst hz2
       (try (conv => whnf)); (repeat ((first | refine qT ?_ | refine qF ?_ | refine qO ?_ | (with_reducible intro z hz); (first | (replace hz := hz (by omega); subst hz) | subst hz)); (try (conv => whnf))))
       rw [show s.extract (Int.toNat 1) s.size = restS s from hext]
       refine CallV.mk _ (hC _ _ _ (PCw.of (hM))) (fun js hjs => ?_); subst hjs
       (try (conv => whnf)); (repeat ((first | refine qT ?_ | refine qF ?_ | refine qO ?_ | (with_reducible intro z hz); (first | (replace hz := hz (by omega); subst hz) | subst hz)); (try (conv => whnf))))
       exact hfin _ (ILes.refl _)
     · simp only [if_true]
       refine PC.of_va (T := tb0) eqs_ok tb_ok rfl mixed Tryd.func13 rfl rfl (Nat.le_of_ble_eq_true rfl) ?_; intro Γ C WK LP fin h0 hW hC hB hR hLP hfin
       (try (conv => whnf)); (repeat ((first | refine qT ?_ | refine qF ?_ | refine qO ?_ | (with_reducible intro z hz); (first | (replace hz := hz (by omega); subst hz) | subst hz)); (try (conv => whnf))))
       intro c z hc hz2
       have hcc : c = c0 := Option.some.inj (hc.symm.trans (show s.data[Int.toNat 0]? = some c0 from hc0))
       subst hcc
       rw [hz] at hz2
       subst hz2
       (try (conv => whnf)); (repeat ((first | refine qT ?_ | refine qF ?_ | refine qO ?_ | (with_reducible intro z hz); (first | (replace hz := hz (by omega); subst hz) | subst hz)); (try (conv => whnf))))
       rw [show s.extract (Int.toNat 1) s.size = restS s from hext]
       refine CallV.mk _ (hC _ _ _ (PCw.of (hM))) (fun js hjs => ?_); subst hjs
       (try (conv => whnf)); (repeat ((first | refine qT ?_ | refine qF ?_ | refine qO ?_ | (with_reducible intro z hz); (first | (replace hz := hz (by omega); subst hz) | subst hz)); (try (conv => whnf))))
       rw [show s.extract (Int.toNat 1) s.size = restS s from hext]
       exact hfin _ (ILes.refl _)
   · rw [hca, decide_eq_false hc]
     simp only [Bool.false_and, Bool.false_eq_true, if_false]
     have hz : ((c0.toNat : Nat) : Int) ≠ 94 := by
       intro h
       apply hc
       have : c0.toNat = 94 := by omega
       rw [← UInt8.ofNat_toNat (x := c0), this]
       rfl
     refine PC.of_va (T := tb0) eqs_ok tb_ok rfl mixed Tryd.func13 rfl rfl (Nat.le_of_ble_eq_true rfl) ?_; intro Γ C WK LP fin h0 hW hC hB hR hLP hfin
     (try (conv => whnf)); (repeat ((first | refine qT ?_ | refine qF ?_ | refine qO ?_ | (with_reducible intro z hz); (first | (replace hz := hz (by omega); subst hz) | subst hz)); (try (conv => whnf))))
     intro c z hcx hz2
     have hcc : c = c0 := Option.some.inj (hcx.symm.trans (show s.data[Int.toNat 0]? = some c0 from hc0))
     subst hcc
     subst hz2
     (try (conv => whnf)); (repeat ((first | refine qT ?_ | refine qF ?_ | refine qO ?_ | (with_reducible intro z hz); (first | (replace hz := hz (by omega); subst hz) | subst hz)); (try (conv => whnf))))
     exact hfin _ (ILes.refl _)
def ancV (p : Nat × Str) : IV := .agg [.int .i64 (p.1 : Nat), .str p.2]
def ancL (l : List Wd) : List (Nat × Str) := (l.zipIdx.filter fun p => ancB p.1.text).map fun p => (p.2, restS p.1.text)
theorem ancL_nil : ancL [] = [] := rfl
theorem ancL_snoc (l : List Wd) (a : Wd) : ancL (l ++ [a]) = ancL l ++ if ancB a.text then [(l.length, restS a.text)] else [] := by
 unfold ancL
 rw [List.zipIdx_append, List.filter_append, List.map_append]
 congr 1
 cases h : ancB a.text <;> simp [List.zipIdx, h]
theorem ancL_len (l : List Wd) : (ancL l).length ≤ l.length := by
 unfold ancL
 rw [List.length_map]
 refine Nat.le_trans (List.length_filter_le _ _) ?_
 simp
theorem map_len {α : Type} (l : List α) (f : α → IV) : ((l.map f).map PV.imm).length = l.length := by simp
theorem anchors_pcr (u : Ut) (h : Ok1 u) : PCR Tryd.prog env0 38 [uv u] 63 2 ((ancL u.words).map ancV) := by
 have hue := uv_eq u
 have hml : (u.words.map wdv).length = u.words.length := List.length_map _
 have hl := h.1
 rw [hue]
 refine PCR.of_va (T := tb0) eqs_ok tb_ok rfl mixed Tryd.func38 rfl rfl (Nat.le_of_ble_eq_true rfl) rfl ?_; intro Γ C WK LP fin h0 hW hC hB hR hLP hfin
 (try (conv => whnf)); (repeat ((first | refine qT ?_ | refine qF ?_ | refine qO ?_ | (with_reducible intro z hz); (first | (replace hz := hz (by omega); subst hz) | subst hz)); (try (conv => whnf))))
 refine hLP _ _ _ Nat (fun k => ⟨[(1, .ptr 0 1 0), (3, .row 1 1), (9, .imm (.sl 4 (u.words.map wdv))), (10, .imm (.int .i64 (u.words.length : Nat))), (11, .imm (.int .i64 (k : Nat)))], [.box 1 [.imm (.int .i64 u.id.x), .imm (.int .i64 u.id.y), .imm (.int .i64 u.id.z), .imm (.int .i64 u.kind), .imm (.str u.label), .imm (.sl 4 (u.head.map wdv)), .imm (.sl 4 (u.words.map wdv)), .imm (.sl 8 (u.kids.map uv))], .row 63 2 1 (((ancL (u.words.take k)).map ancV).map .imm)]⟩) (fun k => k ≤ u.words.length) (fun k => u.words.length - k) 0 (Nat.zero_le _) (((WeakA.nilSlot 3 63 2 (Nat.le_of_ble_eq_true rfl) rfl)).trans (((WeakA.row 1 ((((ancL (u.words.take 0)).map ancV).map .imm)) rfl (by simp [ancL_nil]))).trans (qSL 2 rfl rfl (hE := by (repeat ((conv => whnf); first | exact trivial | refine And.intro (by first | exact WkOne.any | exact WkOne.eq (by with_reducible rfl) rfl | exact WkOne.eq (congrArg (fun z => PV.imm (IV.int IntKind.i64 z)) (by first | omega | (simp [hml]; done) | (simp [hml]; omega))) rfl | exact WkOne.eq (by first | (simp [hml]; done) | fail) rfl | exact WkOne.eq rfl rfl | exact WkOne.le rfl (ILe.nil _)) ?_)))))) ?_
 intro k hk
 have hho := Nat.lt_or_ge k u.words.length
 cases hho with
 | inl hlt =>
   obtain ⟨a, ha⟩ : ∃ a, u.words[k]? = some a := ⟨u.words[k], List.getElem?_eq_getElem hlt⟩
   have hP := parse_pc a.text (by have := h.2.1 a (List.mem_of_getElem? ha); omega)
   have hRl : (((ancL (u.words.take k)).map ancV).map PV.imm).length ≤ k := by
     rw [map_len]
     have := ancL_len (u.words.take k)
     rw [List.length_take] at this
     omega
   have hOw : (((ancL (u.words.take k)).map ancV).map PV.imm).length + 1 ≤ most := by unfold most; omega
   have hsn := ancL_snoc (u.words.take k) a
   rw [← take_at ha, List.length_take, Nat.min_eq_left hk] at hsn
   unfold ancS at hP
   cases hb : ancB a.text
   · rw [hb] at hP hsn
     simp only [Bool.false_eq_true, if_false, List.append_nil] at hP hsn
     (try (conv => whnf)); (repeat ((first | refine qT ?_ | refine qF ?_ | refine qO ?_ | (with_reducible intro z hz); (first | (replace hz := hz (by omega); subst hz) | subst hz)); (try (conv => whnf))))
     refine Idx.mk k (wdv a) _ rfl (by simp [ha]) rfl ?_
     (try (conv => whnf)); (repeat ((first | refine qT ?_ | refine qF ?_ | refine qO ?_ | (with_reducible intro z hz); (first | (replace hz := hz (by omega); subst hz) | subst hz) | (refine CallV.mk _ (hC _ _ _ (PCw.of hP)) (fun js hjs => ?_); subst hjs)); (try (conv => whnf))))
     exact ⟨k + 1, by omega, by dsimp only; omega, ((WeakA.row 1 ((((ancL (u.words.take (k + 1))).map ancV).map .imm)) rfl (by rw [hsn]))).trans (qSL 2 rfl rfl)⟩
   · rw [hb] at hP hsn
     simp only [if_true] at hP hsn
     (try (conv => whnf)); (repeat ((first | refine qT ?_ | refine qF ?_ | refine qO ?_ | (with_reducible intro z hz); (first | (replace hz := hz (by omega); subst hz) | subst hz)); (try (conv => whnf))))
     refine Idx.mk k (wdv a) _ rfl (by simp [ha]) rfl ?_
     (try (conv => whnf)); (repeat ((first | refine qT ?_ | refine qF ?_ | refine qO ?_ | (with_reducible intro z hz); (first | (replace hz := hz (by omega); subst hz) | subst hz) | (refine CallV.mk _ (hC _ _ _ (PCw.of hP)) (fun js hjs => ?_); subst hjs)); (try (conv => whnf))))
     exact ⟨k + 1, by omega, by dsimp only; omega, ((WeakA.row 1 ((((ancL (u.words.take (k + 1))).map ancV).map .imm)) rfl (by rw [hsn]; simp [ancV]))).trans ((WeakA.renew 1 1 rfl (by first | omega | (intro _; rw [hk0 _ _ rfl]; exact Nat.le_of_ble_eq_true rfl)) (by repeat (first | exact trivial | refine And.intro (rgL_imms _ _ _ _) ?_ | refine And.intro rfl ?_))).trans (qSL 2 rfl rfl))⟩
 | inr hge =>
   obtain rfl : k = u.words.length := by omega
   rw [List.take_length]
   (try (conv => whnf)); (repeat ((first | refine qT ?_ | refine qF ?_ | refine qO ?_ | (with_reducible intro z hz); (first | (replace hz := hz (by omega); subst hz) | subst hz)); (try (conv => whnf))))
   exact hfin _ _ _ _ (WeakA.refl _) rfl
end Go.Proofs.YtkjgmnmngbfhhaaDoor.Pn
namespace Go.Proofs.YtkjgmnmngbfhhaaDoor.Pn
open Go Go.Pv Go.RowKit Go.Proofs.YtkjgmnmngbfhhaaDoor.Pb
set_option linter.unusedSimpArgs false
open Lab Lcs Go.Proofs.YtkjgmnmngbfhhaaDoor Go.Proofs.YtkjgmnmngbfhhaaDoor.Pu
set_option maxRecDepth 10000
set_option maxHeartbeats 16000000
def sv (L : List Str) : List IV := L.map IV.str
theorem sv_len (L : List Str) : (sv L).length = L.length := List.length_map _
def labL (l : List Wd) : List Str := (ancL l).map Prod.snd
theorem labL_snoc (l : List Wd) (a : Wd) : labL (l ++ [a]) = labL l ++ if ancB a.text then [restS a.text] else [] := by
 unfold labL
 rw [ancL_snoc, List.map_append]
 cases ancB a.text <;> rfl
theorem labL_len (l : List Wd) : (labL l).length ≤ l.length := by
 unfold labL
 rw [List.length_map]
 exact ancL_len l
theorem labels_pcr (u : Ut) (h : Ok1 u) : PCR Tryd.prog env0 15 [uv u] 9 1 (sv (labL u.words)) := by
 have hA := (anchors_pcr u h).pc
 have hue := uv_eq u
 have hml : ((ancL u.words).map ancV).length = (ancL u.words).length := List.length_map _
 have hal := ancL_len u.words
 have hl := h.1
 have hlab : labL u.words = (ancL u.words).map Prod.snd := rfl
 rw [hlab]
 generalize ancL u.words = l at hA hml hal
 rw [hue] at hA ⊢
 refine PCR.of_va (T := tb0) eqs_ok tb_ok rfl mixed Tryd.func15 rfl rfl (Nat.le_of_ble_eq_true rfl) rfl ?_; intro Γ C WK LP fin h0 hW hC hB hR hLP hfin
 (try (conv => whnf)); (repeat ((first | refine qT ?_ | refine qF ?_ | refine qO ?_ | (with_reducible intro z hz); (first | (replace hz := hz (by omega); subst hz) | subst hz) | (refine CallV.mk _ (hC _ _ _ (PCw.of hA)) (fun js hjs => ?_); subst hjs)); (try (conv => whnf))))
 refine hLP _ _ _ Nat (fun k => ⟨[(3, .row 2 1), (7, .imm (.sl 2 (l.map ancV))), (8, .imm (.int .i64 (l.length : Nat))), (9, .imm (.int .i64 (k : Nat)))], [.box 1 [.imm (.int .i64 u.id.x), .imm (.int .i64 u.id.y), .imm (.int .i64 u.id.z), .imm (.int .i64 u.kind), .imm (.str u.label), .imm (.sl 4 (u.head.map wdv)), .imm (.sl 4 (u.words.map wdv)), .imm (.sl 8 (u.kids.map uv))], .dead 0, .row 9 1 1 ((sv ((l.take k).map Prod.snd)).map .imm)]⟩) (fun k => k ≤ l.length) (fun k => l.length - k) 0 (Nat.zero_le _) (((WeakA.nilSlot 3 9 1 (Nat.le_of_ble_eq_true rfl) rfl)).trans (((WeakA.row 2 (((sv ((l.take 0).map Prod.snd)).map .imm)) rfl (by simp [sv]))).trans (qSL 3 rfl rfl (hE := by (repeat ((conv => whnf); first | exact trivial | refine And.intro (by first | exact WkOne.any | exact WkOne.eq (by with_reducible rfl) rfl | exact WkOne.eq (congrArg (fun z => PV.imm (IV.int IntKind.i64 z)) (by first | omega | (simp [hml]; done) | (simp [hml]; omega))) rfl | exact WkOne.eq (by first | (simp [hml]; done) | fail) rfl | exact WkOne.eq rfl rfl | exact WkOne.le rfl (ILe.nil _)) ?_)))))) ?_
 intro k hk
 have hho := Nat.lt_or_ge k l.length
 cases hho with
 | inl hlt =>
   obtain ⟨a, ha⟩ : ∃ a, l[k]? = some a := ⟨l[k], List.getElem?_eq_getElem hlt⟩
   have hRl : ((sv ((l.take k).map Prod.snd)).map PV.imm).length ≤ k := by
     unfold sv
     rw [List.length_map, List.length_map, List.length_map, List.length_take]
     omega
   have hOw : ((sv ((l.take k).map Prod.snd)).map PV.imm).length + 1 ≤ most := by unfold most; omega
   (try (conv => whnf)); (repeat ((first | refine qT ?_ | refine qF ?_ | refine qO ?_ | (with_reducible intro z hz); (first | (replace hz := hz (by omega); subst hz) | subst hz)); (try (conv => whnf))))
   refine Idx.mk k (ancV a) _ rfl (by simp [ha]) rfl ?_
   (try (conv => whnf)); (repeat ((first | refine qT ?_ | refine qF ?_ | refine qO ?_ | (with_reducible intro z hz); (first | (replace hz := hz (by omega); subst hz) | subst hz)); (try (conv => whnf))))
   exact ⟨k + 1, by omega, by dsimp only; omega, ((WeakA.row 2 (((sv ((l.take (k + 1)).map Prod.snd)).map .imm)) rfl (by rw [take_at ha]; simp [sv]))).trans ((WeakA.renew 2 1 rfl (by first | omega | (intro _; rw [hk0 _ _ rfl]; exact Nat.le_of_ble_eq_true rfl)) (by repeat (first | exact trivial | refine And.intro (rgL_imms _ _ _ _) ?_ | refine And.intro rfl ?_))).trans (qSL 3 rfl rfl))⟩
 | inr hge =>
   obtain rfl : k = l.length := by omega
   rw [List.take_length]
   (try (conv => whnf)); (repeat ((first | refine qT ?_ | refine qF ?_ | refine qO ?_ | (with_reducible intro z hz); (first | (replace hz := hz (by omega); subst hz) | subst hz)); (try (conv => whnf))))
   exact hfin _ _ _ _ (WeakA.refl _) rfl
theorem rlabels_pcr (u : Ut) (h : Ok1 u) : PCR Tryd.prog env0 16 [uv u] 9 1 (sv (labL u.words)) := by
 have hue := uv_eq u
 have hml : (u.words.map wdv).length = u.words.length := List.length_map _
 have hl := h.1
 rw [hue]
 refine PCR.of_va (T := tb0) eqs_ok tb_ok rfl mixed Tryd.func16 rfl rfl (Nat.le_of_ble_eq_true rfl) rfl ?_; intro Γ C WK LP fin h0 hW hC hB hR hLP hfin
 (try (conv => whnf)); (repeat ((first | refine qT ?_ | refine qF ?_ | refine qO ?_ | (with_reducible intro z hz); (first | (replace hz := hz (by omega); subst hz) | subst hz)); (try (conv => whnf))))
 refine hLP _ _ _ Nat (fun k => ⟨[(1, .ptr 0 1 0), (3, .row 1 1), (4, .imm (.int .i64 (k : Nat)))], [.box 1 [.imm (.int .i64 u.id.x), .imm (.int .i64 u.id.y), .imm (.int .i64 u.id.z), .imm (.int .i64 u.kind), .imm (.str u.label), .imm (.sl 4 (u.head.map wdv)), .imm (.sl 4 (u.words.map wdv)), .imm (.sl 8 (u.kids.map uv))], .row 9 1 1 ((sv (labL (u.words.take k))).map .imm)]⟩) (fun k => k ≤ u.words.length) (fun k => u.words.length - k) 0 (Nat.zero_le _) (((WeakA.row 1 (((sv (labL (u.words.take 0))).map .imm)) rfl (by simp [sv, labL, ancL_nil]))).trans (qSL 2 rfl rfl)) ?_
 intro k hk
 have hho := Nat.lt_or_ge k u.words.length
 cases hho with
 | inl hlt =>
   obtain ⟨a, ha⟩ : ∃ a, u.words[k]? = some a := ⟨u.words[k], List.getElem?_eq_getElem hlt⟩
   have hP := ranchor_pc a.text (by have := h.2.1 a (List.mem_of_getElem? ha); omega)
   have hRl : ((sv (labL (u.words.take k))).map PV.imm).length ≤ k := by
     rw [List.length_map, sv_len]
     have := labL_len (u.words.take k)
     rw [List.length_take] at this
     omega
   have hOw : ((sv (labL (u.words.take k))).map PV.imm).length + 1 ≤ most := by unfold most; omega
   have hsn := labL_snoc (u.words.take k) a
   rw [← take_at ha] at hsn
   unfold ancS at hP
   cases hb : ancB a.text
   · rw [hb] at hP hsn
     simp only [Bool.false_eq_true, if_false, List.append_nil] at hP hsn
     (try (conv => whnf)); (repeat ((first | refine qT ?_ | refine qF ?_ | refine qO ?_ | (with_reducible intro z hz); (first | (replace hz := hz (by omega); subst hz) | subst hz)); (try (conv => whnf))))
     refine Idx.mk k (wdv a) _ rfl (by simp [ha]) rfl ?_
     (try (conv => whnf)); (repeat ((first | refine qT ?_ | refine qF ?_ | refine qO ?_ | (with_reducible intro z hz); (first | (replace hz := hz (by omega); subst hz) | subst hz) | (refine CallV.mk _ (hC _ _ _ (PCw.of hP)) (fun js hjs => ?_); subst hjs)); (try (conv => whnf))))
     exact ⟨k + 1, by omega, by dsimp only; omega, ((WeakA.row 1 (((sv (labL (u.words.take (k + 1)))).map .imm)) rfl (by rw [hsn]))).trans (qSL 2 rfl rfl)⟩
   · rw [hb] at hP hsn
     simp only [if_true] at hP hsn
     (try (conv => whnf)); (repeat ((first | refine qT ?_ | refine qF ?_ | refine qO ?_ | (with_reducible intro z hz); (first | (replace hz := hz (by omega); subst hz) | subst hz)); (try (conv => whnf))))
     refine Idx.mk k (wdv a) _ rfl (by simp [ha]) rfl ?_
     (try (conv => whnf)); (repeat ((first | refine qT ?_ | refine qF ?_ | refine qO ?_ | (with_reducible intro z hz); (first | (replace hz := hz (by omega); subst hz) | subst hz) | (refine CallV.mk _ (hC _ _ _ (PCw.of hP)) (fun js hjs => ?_); subst hjs)); (try (conv => whnf))))
     exact ⟨k + 1, by omega, by dsimp only; omega, ((WeakA.row 1 (((sv (labL (u.words.take (k + 1)))).map .imm)) rfl (by rw [hsn]; simp [sv]))).trans ((WeakA.renew 1 1 rfl (by first | omega | (intro _; rw [hk0 _ _ rfl]; exact Nat.le_of_ble_eq_true rfl)) (by repeat (first | exact trivial | refine And.intro (rgL_imms _ _ _ _) ?_ | refine And.intro rfl ?_))).trans (qSL 2 rfl rfl))⟩
 | inr hge =>
   obtain rfl : k = u.words.length := by omega
   rw [List.take_length]
   (try (conv => whnf)); (repeat ((first | refine qT ?_ | refine qF ?_ | refine qO ?_ | (with_reducible intro z hz); (first | (replace hz := hz (by omega); subst hz) | subst hz)); (try (conv => whnf))))
   exact hfin _ _ _ _ (WeakA.refl _) rfl
def idxZ {α : Type} (p : α → Bool) (l : List α) : Int := if l.any p then ((l.findIdx p : Nat) : Int) else -1
theorem idxZ_hit {α : Type} {p : α → Bool} {l : List α} {k : Nat} {x : α} (hx : l[k]? = some x) (h : p x = true) (hp : ∀ y ∈ l.take k, p y = false) : idxZ p l = k := by
 unfold idxZ
 rw [if_pos (List.any_eq_true.2 ⟨x, List.mem_of_getElem? hx, h⟩)]
 obtain ⟨hk, he⟩ := List.getElem?_eq_some_iff.1 hx
 congr 1
 refine (List.findIdx_eq hk).2 ⟨by rw [he]; exact h, fun j hj => ?_⟩
 have : l[j] ∈ l.take k := by rw [List.mem_take_iff_getElem]; exact ⟨j, by omega, rfl⟩
 exact hp _ this
theorem idxZ_none {α : Type} {p : α → Bool} {l : List α} (hp : ∀ y ∈ l, p y = false) : idxZ p l = -1 := by
 unfold idxZ
 rw [if_neg]
 intro h
 obtain ⟨x, hx, he⟩ := List.any_eq_true.1 h
 rw [hp x hx] at he
 cases he
theorem idxZ_cases {α : Type} (p : α → Bool) (l : List α) : (idxZ p l = -1 ∧ ∀ y ∈ l, p y = false) ∨ ∃ k x, l[k]? = some x ∧ p x = true ∧ (∀ y ∈ l.take k, p y = false) ∧ idxZ p l = (k : Nat) := by
 cases h : l.any p with
 | false =>
   have hp : ∀ y ∈ l, p y = false := by
     intro y hy
     cases hq : p y with
     | false => rfl
     | true => rw [List.any_eq_true.2 ⟨y, hy, hq⟩] at h; cases h
   exact Or.inl ⟨idxZ_none hp, hp⟩
 | true =>
   have hex : ∃ x ∈ l, p x = true := List.any_eq_true.1 h
   have hlt := List.findIdx_lt_length.2 hex
   have hx : l[l.findIdx p]? = some l[l.findIdx p] := List.getElem?_eq_getElem hlt
   have hpx : p l[l.findIdx p] = true := List.findIdx_getElem (w := hlt)
   have hbef : ∀ y ∈ l.take (l.findIdx p), p y = false := by
     intro y hy
     rw [List.mem_take_iff_getElem] at hy
     obtain ⟨j, hj, rfl⟩ := hy
     have := List.not_of_lt_findIdx (p := p) (xs := l) (i := j) (by omega)
     simpa using this
   exact Or.inr ⟨_, _, hx, hpx, hbef, idxZ_hit hx hpx hbef⟩
theorem place_pc (L : List Str) (s : Str) (hl : L.length ≤ 100000000) : PC Tryd.prog env0 39 [.sl 1 (sv L), .str s] [.int .i64 (idxZ (fun x => decide (x = s)) L)] := by
 have hml := sv_len L
 refine PC.of_va (T := tb0) eqs_ok tb_ok rfl mixed Tryd.func39 rfl rfl (Nat.le_of_ble_eq_true rfl) ?_; intro Γ C WK LP fin h0 hW hC hB hR hLP hfin
 (try (conv => whnf)); (repeat ((first | refine qT ?_ | refine qF ?_ | refine qO ?_ | (with_reducible intro z hz); (first | (replace hz := hz (by omega); subst hz) | subst hz)); (try (conv => whnf))))
 refine hLP _ _ _ Nat (fun k => ⟨[(0, .imm (.sl 1 (sv L))), (1, .imm (.str s)), (5, .imm (.int .i64 (k : Nat)))], []⟩) (fun k => k ≤ L.length ∧ ∀ x ∈ L.take k, (fun x => decide (x = s)) x = false) (fun k => L.length - k) 0 ⟨Nat.zero_le _, by simp⟩ (qSL 0 rfl rfl) ?_
 rintro k ⟨hk, hp⟩
 have hho := Nat.lt_or_ge k L.length
 cases hho with
 | inl hlt =>
   obtain ⟨x, hx⟩ : ∃ x, L[k]? = some x := ⟨L[k], List.getElem?_eq_getElem hlt⟩
   by_cases hxs : x = s
   · have hih := idxZ_hit (p := fun x => decide (x = s)) hx (decide_eq_true hxs) hp
     (try (conv => whnf)); (repeat ((first | refine qT ?_ | refine qF ?_ | refine qO ?_ | (with_reducible intro z hz); (first | (replace hz := hz (by omega); subst hz) | subst hz)); (try (conv => whnf))))
     refine Idx.mk k (.str x) _ rfl (by simp [sv, hx]) rfl ?_
     (try (conv => whnf)); (repeat ((first | refine qT ?_ | refine qF ?_ | refine qO ?_ | (with_reducible intro z hz); (first | (replace hz := hz (by omega); subst hz) | subst hz)); (try (conv => whnf))))
     rw [hih] at hfin
     exact hfin _ (ILes.refl _)
   · (try (conv => whnf)); (repeat ((first | refine qT ?_ | refine qF ?_ | refine qO ?_ | (with_reducible intro z hz); (first | (replace hz := hz (by omega); subst hz) | subst hz)); (try (conv => whnf))))
     refine Idx.mk k (.str x) _ rfl (by simp [sv, hx]) rfl ?_
     (try (conv => whnf)); (repeat ((first | refine qT ?_ | refine qF ?_ | refine qO ?_ | (with_reducible intro z hz); (first | (replace hz := hz (by omega); subst hz) | subst hz)); (try (conv => whnf))))
     exact ⟨k + 1, ⟨by omega, fun y hy => by
       rw [take_at hx, List.mem_append] at hy
       rcases hy with hy | hy
       · exact hp y hy
       · rw [List.mem_singleton.1 hy]; exact decide_eq_false hxs⟩, by dsimp only; omega, (qSL 0 rfl rfl)⟩
 | inr hge =>
   obtain rfl : k = L.length := by omega
   rw [List.take_length] at hp
   rw [idxZ_none hp] at hfin
   (try (conv => whnf)); (repeat ((first | refine qT ?_ | refine qF ?_ | refine qO ?_ | (with_reducible intro z hz); (first | (replace hz := hz (by omega); subst hz) | subst hz)); (try (conv => whnf))))
   exact hfin _ (ILes.refl _)
def isNote (s : Str) (x : Ut) : Bool := decide (x.kind = 7) && decide (x.label = s)
theorem note_pc (u : Ut) (s : Str) (hl : u.kids.length ≤ 100000000) : PC Tryd.prog env0 40 [uv u, .str s] [.int .i64 (idxZ (isNote s) u.kids)] := by
 have hue := uv_eq u
 have hml : (u.kids.map uv).length = u.kids.length := List.length_map _
 rw [hue]
 refine PC.of_va (T := tb0) eqs_ok tb_ok rfl mixed Tryd.func40 rfl rfl (Nat.le_of_ble_eq_true rfl) ?_; intro Γ C WK LP fin h0 hW hC hB hR hLP hfin
 (try (conv => whnf)); (repeat ((first | refine qT ?_ | refine qF ?_ | refine qO ?_ | (with_reducible intro z hz); (first | (replace hz := hz (by omega); subst hz) | subst hz)); (try (conv => whnf))))
 refine hLP _ _ _ Nat (fun k => ⟨[(1, .imm (.str s)), (2, .ptr 0 1 0), (5, .imm (.int .i64 (k : Nat)))], [.box 1 [.imm (.int .i64 u.id.x), .imm (.int .i64 u.id.y), .imm (.int .i64 u.id.z), .imm (.int .i64 u.kind), .imm (.str u.label), .imm (.sl 4 (u.head.map wdv)), .imm (.sl 4 (u.words.map wdv)), .imm (.sl 8 (u.kids.map uv))]]⟩) (fun k => k ≤ u.kids.length ∧ ∀ x ∈ u.kids.take k, isNote s x = false) (fun k => u.kids.length - k) 0 ⟨Nat.zero_le _, by simp⟩ (qSL 1 rfl rfl) ?_
 rintro k ⟨hk, hp⟩
 have hho := Nat.lt_or_ge k u.kids.length
 cases hho with
 | inl hlt =>
   obtain ⟨x, hx⟩ : ∃ x, u.kids[k]? = some x := ⟨u.kids[k], List.getElem?_eq_getElem hlt⟩
   have hux := uv_eq x
   by_cases hk7 : x.kind = 7
   · by_cases hls : x.label = s
     · have hih := idxZ_hit (p := isNote s) hx (by unfold isNote; rw [decide_eq_true hk7, decide_eq_true hls]; rfl) hp
       (try (conv => whnf)); (repeat ((first | refine qT ?_ | refine qF ?_ | refine qO ?_ | (with_reducible intro z hz); (first | (replace hz := hz (by omega); subst hz) | subst hz)); (try (conv => whnf))))
       refine Idx.mk k (uv x) _ rfl (by simp [hx]) (by rw [hux]; try rfl) ?_
       (try (conv => whnf)); (repeat ((first | refine qT ?_ | refine qF ?_ | refine qO ?_ | (with_reducible intro z hz); (first | (replace hz := hz (by omega); subst hz) | subst hz)); (try (conv => whnf))))
       refine Idx.mk k (uv x) _ rfl (by simp [hx]) (by rw [hux]; try rfl) ?_
       (try (conv => whnf)); (repeat ((first | refine qT ?_ | refine qF ?_ | refine qO ?_ | (with_reducible intro z hz); (first | (replace hz := hz (by omega); subst hz) | subst hz)); (try (conv => whnf))))
       rw [hih] at hfin
       exact hfin _ (ILes.refl _)
     · (try (conv => whnf)); (repeat ((first | refine qT ?_ | refine qF ?_ | refine qO ?_ | (with_reducible intro z hz); (first | (replace hz := hz (by omega); subst hz) | subst hz)); (try (conv => whnf))))
       refine Idx.mk k (uv x) _ rfl (by simp [hx]) (by rw [hux]; try rfl) ?_
       (try (conv => whnf)); (repeat ((first | refine qT ?_ | refine qF ?_ | refine qO ?_ | (with_reducible intro z hz); (first | (replace hz := hz (by omega); subst hz) | subst hz)); (try (conv => whnf))))
       refine Idx.mk k (uv x) _ rfl (by simp [hx]) (by rw [hux]; try rfl) ?_
       (try (conv => whnf)); (repeat ((first | refine qT ?_ | refine qF ?_ | refine qO ?_ | (with_reducible intro z hz); (first | (replace hz := hz (by omega); subst hz) | subst hz)); (try (conv => whnf))))
       exact ⟨k + 1, ⟨by omega, fun y hy => by
         rw [take_at hx, List.mem_append] at hy
         rcases hy with hy | hy
         · exact hp y hy
         · rw [List.mem_singleton.1 hy]; unfold isNote; rw [decide_eq_false hls, Bool.and_false]⟩, by dsimp only; omega, (qSL 1 rfl rfl)⟩
   · (try (conv => whnf)); (repeat ((first | refine qT ?_ | refine qF ?_ | refine qO ?_ | (with_reducible intro z hz); (first | (replace hz := hz (by omega); subst hz) | subst hz)); (try (conv => whnf))))
     refine Idx.mk k (uv x) _ rfl (by simp [hx]) (by rw [hux]; try rfl) ?_
     (try (conv => whnf)); (repeat ((first | refine qT ?_ | refine qF ?_ | refine qO ?_ | (with_reducible intro z hz); (first | (replace hz := hz (by omega); subst hz) | subst hz)); (try (conv => whnf))))
     exact ⟨k + 1, ⟨by omega, fun y hy => by
       rw [take_at hx, List.mem_append] at hy
       rcases hy with hy | hy
       · exact hp y hy
       · rw [List.mem_singleton.1 hy]; unfold isNote; rw [decide_eq_false hk7, Bool.false_and]⟩, by dsimp only; omega, (qSL 1 rfl rfl)⟩
 | inr hge =>
   obtain rfl : k = u.kids.length := by omega
   rw [List.take_length] at hp
   rw [idxZ_none hp] at hfin
   (try (conv => whnf)); (repeat ((first | refine qT ?_ | refine qF ?_ | refine qO ?_ | (with_reducible intro z hz); (first | (replace hz := hz (by omega); subst hz) | subst hz)); (try (conv => whnf))))
   exact hfin _ (ILes.refl _)
end Go.Proofs.YtkjgmnmngbfhhaaDoor.Pn
namespace Go.Proofs.YtkjgmnmngbfhhaaDoor.Pn
open Go Go.Pv Go.RowKit Go.Proofs.YtkjgmnmngbfhhaaDoor.Pb
set_option linter.unusedSimpArgs false
open Lab Lcs Go.Proofs.YtkjgmnmngbfhhaaDoor Go.Proofs.YtkjgmnmngbfhhaaDoor.Pu
set_option maxRecDepth 10000
set_option maxHeartbeats 16000000
def noteStep (m : List (IV × IV)) (k : Nat) (x : Ut) : List (IV × IV) := if x.kind = 7 ∧ lookM m (.str x.label) = none then putM m (.str x.label) (.int .i64 (k : Nat)) else m
def noteM (m : List (IV × IV)) : Nat → List Ut → List (IV × IV)
 | _, [] => m
 | k, x :: r => noteM (noteStep m k x) (k + 1) r
theorem noteM_app : ∀ (l r : List Ut) (m : List (IV × IV)) (k : Nat), noteM m k (l ++ r) = noteM (noteM m k l) (k + l.length) r
 | [], r, m, k => by simp [noteM]
 | x :: l, r, m, k => by
   simp only [List.cons_append, noteM, List.length_cons]
   rw [noteM_app l r, show k + 1 + l.length = k + (l.length + 1) by omega]
theorem noteM_snoc (l : List Ut) (x : Ut) : noteM [] 0 (l ++ [x]) = noteStep (noteM [] 0 l) l.length x := by
 rw [noteM_app]
 simp [noteM]
def noteO (kids : List Ut) (s : Str) : Option Nat := if kids.any (isNote s) then some (kids.findIdx (isNote s)) else none
theorem noteO_snoc (l : List Ut) (x : Ut) (s : Str) : noteO (l ++ [x]) s = match noteO l s with
   | some k => some k
   | none => if isNote s x then some l.length else none := by
 unfold noteO
 rw [List.any_append, List.findIdx_append]
 cases h : l.any (isNote s) with
 | true =>
   have := List.findIdx_lt_length.2 (List.any_eq_true.1 h)
   simp [this]
 | false =>
   have : ¬ List.findIdx (isNote s) l < l.length := by
     intro hlt
     rw [List.any_eq_true.2 (List.findIdx_lt_length.1 hlt)] at h
     cases h
   cases hx : isNote s x <;> simp [this, hx, List.findIdx_cons]
theorem noteM_look (l : List Ut) (s : Str) : lookM (noteM [] 0 l) (.str s) = (noteO l s).map fun k => .int .i64 (k : Nat) := by
 have : ∀ (n : Nat) (l : List Ut), l.length = n → ∀ s, lookM (noteM [] 0 l) (.str s) = (noteO l s).map fun k => IV.int .i64 (k : Nat) := by
   intro n
   induction n with
   | zero =>
     intro l hl s
     obtain rfl := List.eq_nil_of_length_eq_zero hl
     rfl
   | succ n ih =>
     intro l hl s
     obtain ⟨r, x, rfl⟩ : ∃ r x, l = r ++ [x] := ⟨l.dropLast, l.getLast (by intro h; subst h; simp at hl), (List.dropLast_concat_getLast _).symm⟩
     have hr : r.length = n := by simpa using hl
     rw [noteM_snoc, noteO_snoc]
     have h1 := ih r hr
     unfold noteStep
     have hx := h1 x.label
     split
     · rename_i hc
       obtain ⟨hc1, hc2⟩ := hc
       rw [lookM_putS, h1 s]
       rw [hc2] at hx
       by_cases hls : x.label = s
       · rw [if_pos hls]
         subst hls
         have hno : noteO r x.label = none := by
           cases hq : noteO r x.label with
           | none => rfl
           | some k => rw [hq] at hx; cases hx
         rw [hno]
         have : isNote x.label x = true := by unfold isNote; simp [hc1]
         rw [this]
         rfl
       · rw [if_neg hls]
         have : isNote s x = false := by unfold isNote; simp [hls]
         rw [this]
         cases noteO r s <;> rfl
     · rename_i hc
       rw [h1 s]
       cases hq : noteO r s with
       | some k => rfl
       | none =>
         have : isNote s x = false := by
           unfold isNote
           by_cases h7 : x.kind = 7
           · by_cases hls : x.label = s
             · exfalso
               apply hc
               refine ⟨h7, ?_⟩
               rw [h1 x.label, hls, hq]
               rfl
             · simp [hls]
           · simp [h7]
         rw [this]
         rfl
 exact this l.length l rfl s
theorem noteO_idx (l : List Ut) (s : Str) : idxZ (isNote s) l = match noteO l s with
   | some k => (k : Int)
   | none => -1 := by
 unfold idxZ noteO
 cases l.any (isNote s) <;> simp
theorem callable_pcb (u : Ut) (h : Ok1 u) : PCB Tryd.prog env0 55 [.imm (uv u)] [.dead 1] [.row 0 2] [.map .str 2 (noteM [] 0 u.kids)] := by
 have hue := uv_eq u
 have hml : (u.kids.map uv).length = u.kids.length := List.length_map _
 have hl := h.2.2
 rw [hue]
 refine PCB.of_va (T := tb0) eqs_ok tb_ok rfl mixed Tryd.func55 rfl rfl rfl (Nat.le_of_ble_eq_true rfl) rfl ?_; intro Γ C WK LP fin h0 hk0 hW hC hB hR hLP hfin
 (try (conv => whnf)); (repeat ((first | refine qT ?_ | refine qF ?_ | refine qO ?_ | (with_reducible intro z hz); (first | (replace hz := hz (by omega); subst hz) | subst hz)); (try (conv => whnf))))
 refine hLP _ _ _ Nat (fun k => ⟨[(3, .row 2 1), (10, .imm (.sl 8 (u.kids.map uv))), (11, .imm (.int .i64 (u.kids.length : Nat))), (12, .imm (.int .i64 (k : Nat)))], [.dead 1, .box 1 [.imm (.int .i64 u.id.x), .imm (.int .i64 u.id.y), .imm (.int .i64 u.id.z), .imm (.int .i64 u.kind), .imm (.str u.label), .imm (.sl 4 (u.head.map wdv)), .imm (.sl 4 (u.words.map wdv)), .imm (.sl 8 (u.kids.map uv))], .map .str 1 (noteM [] 0 (u.kids.take k))]⟩) (fun k => k ≤ u.kids.length) (fun k => u.kids.length - k) 0 (Nat.zero_le _) (qSL 3 rfl rfl (hE := by (repeat ((conv => whnf); first | exact trivial | refine And.intro (by first | exact WkOne.any | exact WkOne.eq (by with_reducible rfl) rfl | exact WkOne.eq (congrArg (fun z => PV.imm (IV.int IntKind.i64 z)) (by first | omega | (simp [hml]; done) | (simp [hml]; omega))) rfl | exact WkOne.eq (by first | (simp [hml]; done) | fail) rfl | exact WkOne.eq rfl rfl | exact WkOne.le rfl (ILe.nil _)) ?_)))) ?_
 intro k hk
 have hho := Nat.lt_or_ge k u.kids.length
 cases hho with
 | inl hlt =>
   obtain ⟨x, hx⟩ : ∃ x, u.kids[k]? = some x := ⟨u.kids[k], List.getElem?_eq_getElem hlt⟩
   have hux := uv_eq x
   have hsn := noteM_snoc (u.kids.take k) x
   rw [← take_at hx, List.length_take, Nat.min_eq_left hk] at hsn
   by_cases h7 : x.kind = 7
   rotate_left
   · have hst : noteM [] 0 (u.kids.take k) = noteM [] 0 (u.kids.take (k + 1)) := by rw [hsn]; unfold noteStep; rw [if_neg fun h => h7 h.1]
     (try (conv => whnf)); (repeat ((first | refine qT ?_ | refine qF ?_ | refine qO ?_ | (with_reducible intro z hz); (first | (replace hz := hz (by omega); subst hz) | subst hz)); (try (conv => whnf))))
     refine Idx.mk k (uv x) _ rfl (by simp [hx]) (by rw [hux]; try rfl) ?_
     (try (conv => whnf)); (repeat ((first | refine qT ?_ | refine qF ?_ | refine qO ?_ | (with_reducible intro z hz); (first | (replace hz := hz (by omega); subst hz) | subst hz)); (try (conv => whnf))))
     exact ⟨k + 1, by omega, by dsimp only; omega, ((WeakA.mapTo 2 ((noteM [] 0 (u.kids.take (k + 1)))) rfl (by exact hst))).trans (qSL 3 rfl rfl)⟩
   cases hlk : lookM (noteM [] 0 (u.kids.take k)) (.str x.label) with
   | none =>
     have hst : putM (noteM [] 0 (u.kids.take k)) (.str x.label) (.int .i64 (k : Nat)) = noteM [] 0 (u.kids.take (k + 1)) := by rw [hsn]; unfold noteStep; rw [if_pos ⟨h7, hlk⟩]
     (try (conv => whnf)); (repeat ((first | refine qT ?_ | refine qF ?_ | refine qO ?_ | (with_reducible intro z hz); (first | (replace hz := hz (by omega); subst hz) | subst hz)); (try (conv => whnf))))
     refine Idx.mk k (uv x) _ rfl (by simp [hx]) (by rw [hux]; try rfl) ?_
     (try (conv => whnf)); (repeat ((first | refine qT ?_ | refine qF ?_ | refine qO ?_ | (with_reducible intro z hz); (first | (replace hz := hz (by omega); subst hz) | subst hz)); (try (conv => whnf))))
     refine LookK.mk (.int .i64 0) false (by rw [hlk]; rfl) (by rw [hlk]; rfl) ?_
     (try (conv => whnf)); (repeat ((first | refine qT ?_ | refine qF ?_ | refine qO ?_ | (with_reducible intro z hz); (first | (replace hz := hz (by omega); subst hz) | subst hz)); (try (conv => whnf))))
     exact ⟨k + 1, by omega, by dsimp only; omega, ((WeakA.mapTo 2 ((noteM [] 0 (u.kids.take (k + 1)))) rfl (by exact hst))).trans (qSL 3 rfl rfl)⟩
   | some v =>
     have hst : noteM [] 0 (u.kids.take k) = noteM [] 0 (u.kids.take (k + 1)) := by rw [hsn]; unfold noteStep; rw [if_neg fun h => by rw [hlk] at h; cases h.2]
     (try (conv => whnf)); (repeat ((first | refine qT ?_ | refine qF ?_ | refine qO ?_ | (with_reducible intro z hz); (first | (replace hz := hz (by omega); subst hz) | subst hz)); (try (conv => whnf))))
     refine Idx.mk k (uv x) _ rfl (by simp [hx]) (by rw [hux]; try rfl) ?_
     (try (conv => whnf)); (repeat ((first | refine qT ?_ | refine qF ?_ | refine qO ?_ | (with_reducible intro z hz); (first | (replace hz := hz (by omega); subst hz) | subst hz)); (try (conv => whnf))))
     refine LookK.mk v true (by rw [hlk]; rfl) (by rw [hlk]; rfl) ?_
     (try (conv => whnf)); (repeat ((first | refine qT ?_ | refine qF ?_ | refine qO ?_ | (with_reducible intro z hz); (first | (replace hz := hz (by omega); subst hz) | subst hz)); (try (conv => whnf))))
     exact ⟨k + 1, by omega, by dsimp only; omega, ((WeakA.mapTo 2 ((noteM [] 0 (u.kids.take (k + 1)))) rfl (by exact hst))).trans (qSL 3 rfl rfl)⟩
 | inr hge =>
   obtain rfl : k = u.kids.length := by omega
   rw [List.take_length]
   (try (conv => whnf)); (repeat ((first | refine qT ?_ | refine qF ?_ | refine qO ?_ | (with_reducible intro z hz); (first | (replace hz := hz (by omega); subst hz) | subst hz)); (try (conv => whnf))))
   exact hfin _ (WeakA.trans (WeakA.adopt 0 2 2 (by decide) rfl rfl (by rw [h0]; exact Nat.le_of_ble_eq_true rfl) (by first | omega | (intro _; rw [hk0 _ _ rfl]; exact Nat.le_of_ble_eq_true rfl)) (by repeat (first | exact trivial | refine And.intro (mvL_imms _ _ _ _ _) ?_ | refine And.intro rfl ?_))) (qSL 1 rfl rfl))
end Go.Proofs.YtkjgmnmngbfhhaaDoor.Pn
