/-
  The reference's Few.
-/
import Derived.Test.YtkjgmnmngbfhhaaDoorBf
import Derived.Test.YtkjgmnmngbfhhaaDoorFew
import Derived.Test.YtkjgmnmngbfhhaaDoorAqb
namespace Go.Proofs.YtkjgmnmngbfhhaaDoor.Pg
open Go Go.Pv Go.RowKit Go.Proofs.YtkjgmnmngbfhhaaDoor.Pb
set_option linter.unusedSimpArgs false
open Lab Lcs Go.Proofs.YtkjgmnmngbfhhaaDoor Go.Proofs.YtkjgmnmngbfhhaaDoor.Pu
set_option maxRecDepth 10000
set_option maxHeartbeats 16000000
theorem tq_int : tdOf Tryd.prog 3 = some ⟨false, 1, [.int .i64 0], .int .i64⟩ := by kernel_rfl
theorem tq_string : tdOf Tryd.prog 9 = some ⟨false, 1, [.str ⟨#[]⟩], .str⟩ := by kernel_rfl
theorem tq_bool : tdOf Tryd.prog 4 = some ⟨false, 1, [.bool false], .bool⟩ := by kernel_rfl
theorem tq_apiId : tdOf Tryd.prog 23 = some ⟨true, 3, [.int .i64 0, .int .i64 0, .int .i64 0], .struct [(0, 1, false), (1, 1, false), (2, 1, false)]⟩ := by kernel_rfl
theorem tq_apiMark : tdOf Tryd.prog 50 = some ⟨true, 3, [.int .i64 0, .int .i64 0, .int .i64 0], .struct [(0, 1, false), (1, 1, false), (2, 1, false)]⟩ := by kernel_rfl
theorem tq_apiWord : tdOf Tryd.prog 52 = some ⟨true, 4, [.str ⟨#[]⟩, .int .i64 0, .int .i64 0, .int .i64 0], .struct [(0, 1, false), (1, 3, true)]⟩ := by kernel_rfl
theorem tq_apiUnit : tdOf Tryd.prog 27 = some ⟨true, 8, [.int .i64 0, .int .i64 0, .int .i64 0, .int .i64 0, .str ⟨#[]⟩, .nil, .nil, .nil], .struct [(0, 3, true), (3, 1, false), (4, 1, false), (5, 1, false), (6, 1, false), (7, 1, false)]⟩ := by kernel_rfl
theorem tq_s_apiUnit : tdOf Tryd.prog 25 = some ⟨false, 1, [.nil], .slice 27 8 120⟩ := by kernel_rfl
theorem tq_s_apiWord : tdOf Tryd.prog 24 = some ⟨false, 1, [.nil], .slice 52 4 40⟩ := by kernel_rfl
theorem tq_s_apiId : tdOf Tryd.prog 41 = some ⟨false, 1, [.nil], .slice 23 3 24⟩ := by kernel_rfl
theorem tq_apiErrno : tdOf Tryd.prog 48 = some ⟨false, 1, [.int .i64 0], .int .i64⟩ := by kernel_rfl
def tdl : List (TypeId × TD) := [(3, ⟨false, 1, [.int .i64 0], .int .i64⟩), (9, ⟨false, 1, [.str ⟨#[]⟩], .str⟩), (4, ⟨false, 1, [.bool false], .bool⟩), (23, ⟨true, 3, [.int .i64 0, .int .i64 0, .int .i64 0], .struct [(0, 1, false), (1, 1, false), (2, 1, false)]⟩), (50, ⟨true, 3, [.int .i64 0, .int .i64 0, .int .i64 0], .struct [(0, 1, false), (1, 1, false), (2, 1, false)]⟩), (52, ⟨true, 4, [.str ⟨#[]⟩, .int .i64 0, .int .i64 0, .int .i64 0], .struct [(0, 1, false), (1, 3, true)]⟩), (27, ⟨true, 8, [.int .i64 0, .int .i64 0, .int .i64 0, .int .i64 0, .str ⟨#[]⟩, .nil, .nil, .nil], .struct [(0, 3, true), (3, 1, false), (4, 1, false), (5, 1, false), (6, 1, false), (7, 1, false)]⟩), (25, ⟨false, 1, [.nil], .slice 27 8 120⟩), (24, ⟨false, 1, [.nil], .slice 52 4 40⟩), (41, ⟨false, 1, [.nil], .slice 23 3 24⟩), (48, ⟨false, 1, [.int .i64 0], .int .i64⟩)]
theorem tdl_ok : AllTd Tryd.prog tdl := ⟨tq_int, tq_string, tq_bool, tq_apiId, tq_apiMark, tq_apiWord, tq_apiUnit, tq_s_apiUnit, tq_s_apiWord, tq_s_apiId, tq_apiErrno, trivial⟩
def tbn (fr : Nat → List Nat) (hk : Nat → Bool) : Tb := ⟨Pv.look tdl, eqs, fun _ => none, fr, hk, fun _ => 0⟩
abbrev tbf (fr : Nat → List Nat) : Tb := tbn fr fun _ => false
def tb0 : Tb := tbf fun _ => []
theorem tb_ok {fr : Nat → List Nat} {hk : Nat → Bool} : ∀ t d, (tbn fr hk).td t = some d → tdOf Tryd.prog t = some d := Pv.look_ok tdl_ok
abbrev env0 : Env := envU
mutual
def sizeN : Ut → Int → Int → Int
 | .mk _ _ _ _ _ kids, d, m => if 20 < d then m + 1 else sizeL kids d m 1
def sizeL : List Ut → Int → Int → Int → Int
 | [], _, _, n => n
 | u :: r, d, m, n => if n ≤ m then sizeL r d m (n + sizeN u (d + 1) (m - n)) else n
end
theorem sizeN_eq (u : Ut) (d m : Int) : sizeN u d m = if 20 < d then m + 1 else sizeL u.kids d m 1 := by
 cases u; rw [sizeN]; rfl
mutual
theorem sizeN_pos : ∀ (u : Ut) (d m : Int), 0 ≤ m → 1 ≤ sizeN u d m ∧ sizeN u d m ≤ m + 1
 | .mk _ _ _ _ _ kids, d, m, hm => by
   rw [sizeN]
   split
   · omega
   · exact sizeL_pos kids d m 1 (by omega) (by omega)
theorem sizeL_pos : ∀ (l : List Ut) (d m n : Int), 1 ≤ n → n ≤ m + 1 → 1 ≤ sizeL l d m n ∧ sizeL l d m n ≤ m + 1
 | [], _, _, n, h1, h2 => by rw [sizeL]; omega
 | u :: r, d, m, n, h1, h2 => by
   rw [sizeL]
   split
   · have := sizeN_pos u (d + 1) (m - n) (by omega)
     exact sizeL_pos r d m _ (by omega) (by omega)
   · omega
end
mutual
theorem sizeN_few : ∀ (u : Ut) (d m : Int), 0 ≤ m → sizeN u d m ≤ m → sizeN u d m = u.count ∧ d + u.depth ≤ 20
 | .mk id kind label head words kids, d, m, hm, h => by
   rw [sizeN] at h ⊢
   split at h
   · omega
   · rename_i hd
     rw [if_neg hd]
     have := sizeL_few kids d m 1 (by omega) (by omega) h
     rw [count_mk, depth_mk]
     omega
theorem sizeL_few : ∀ (l : List Ut) (d m n : Int), 1 ≤ n → d ≤ 20 → sizeL l d m n ≤ m → sizeL l d m n = n + Ut.counts l ∧ d + Ut.depths l ≤ 20
 | [], d, m, n, h1, h2, h => by
   rw [sizeL] at h ⊢
   simp only [Ut.counts, Ut.depths]
   omega
 | u :: r, d, m, n, h1, h2, h => by
   rw [sizeL] at h ⊢
   split at h
   · rename_i hn
     rw [if_pos hn]
     have hp := sizeN_pos u (d + 1) (m - n) (by omega)
     have h3 := sizeL_few r d m (n + sizeN u (d + 1) (m - n)) (by omega) h2 h
     have h4 := sizeN_few u (d + 1) (m - n) (by omega) (by omega)
     simp only [Ut.counts, Ut.depths]
     omega
   · omega
end
def fewU (u : Ut) (m : Int) : Bool := decide (sizeN u 0 m ≤ m) && u.all.all fewB
theorem few_small {u : Ut} {m : Nat} (h : fewU u m = true) : Small m u := by
 unfold fewU at h
 simp only [Bool.and_eq_true, decide_eq_true_eq] at h
 obtain ⟨h1, h2⟩ := h
 obtain ⟨h3, h4⟩ := sizeN_few u 0 m (by omega) h1
 exact ⟨by omega, by omega, h2⟩
theorem size_pc (N : Nat) : ∀ (u : Ut) (d m : Int), u.count ≤ N → 0 ≤ d → d ≤ 21 → 0 ≤ m → m ≤ 1000 → PC Tryd.prog env0 33 [uv u, .int .i64 d, .int .i64 m] [.int .i64 (sizeN u d m)] := by
 induction N with
 | zero => intro u d m h; have := count_pos u; omega
 | succ N ih =>
 intro u d m hN h0 hd hm0 hm
 have hue := uv_eq u
 have hcu := Ut.count_eq u
 have hkl := kids_counts u.kids
 have hml : (u.kids.map uv).length = u.kids.length := List.length_map _
 rw [sizeN_eq, hue]
 by_cases hlt : 20 < d
 · rw [if_pos hlt]
   refine PC.of_va (T := tb0) eqs_ok tb_ok rfl mixed Tryd.func33 rfl rfl (Nat.le_of_ble_eq_true rfl) ?_; intro Γ C WK LP fin h0 hW hC hB hR hLP hfin
   (try (conv => whnf)); (repeat ((first | refine qT ?_ | refine qF ?_ | refine qO ?_ | (with_reducible intro z hz); (first | (replace hz := hz (by omega); subst hz) | subst hz)); (try (conv => whnf))))
   exact hfin _ (ILes.refl _)
 · rw [if_neg hlt]
   refine PC.of_va (T := tb0) eqs_ok tb_ok rfl mixed Tryd.func33 rfl rfl (Nat.le_of_ble_eq_true rfl) ?_; intro Γ C WK LP fin h0 hW hC hB hR hLP hfin
   (try (conv => whnf)); (repeat ((first | refine qT ?_ | refine qF ?_ | refine qO ?_ | (with_reducible intro z hz); (first | (replace hz := hz (by omega); subst hz) | subst hz)); (try (conv => whnf))))
   refine hLP _ _ _ (Nat × Int) (fun p => ⟨[(1, .imm (.int .i64 d)), (2, .imm (.int .i64 m)), (3, .ptr 0 1 0), (7, .imm (.int .i64 p.2)), (8, .imm (.int .i64 (p.1 : Nat)))], [.box 1 [.imm (.int .i64 u.id.x), .imm (.int .i64 u.id.y), .imm (.int .i64 u.id.z), .imm (.int .i64 u.kind), .imm (.str u.label), .imm (.sl 4 (u.head.map wdv)), .imm (.sl 4 (u.words.map wdv)), .imm (.sl 8 (u.kids.map uv))]]⟩) (fun p => p.1 ≤ u.kids.length ∧ p.1 + 1 ≤ p.2 ∧ p.2 ≤ m + 1 ∧ sizeL (u.kids.drop p.1) d m p.2 = sizeL u.kids d m 1) (fun p => u.kids.length - p.1) (0, 1) ⟨Nat.zero_le _, by dsimp only; omega, by dsimp only; omega, rfl⟩ (qSL 1 rfl rfl) ?_
   rintro ⟨k, n⟩ ⟨hk, hkn, hn, hinv⟩
   dsimp only at hk hkn hn hinv ⊢
   have hho := Nat.lt_or_ge k u.kids.length
   cases hho with
   | inl hlt2 =>
     obtain ⟨x, hx⟩ : ∃ x, u.kids[k]? = some x := ⟨u.kids[k], List.getElem?_eq_getElem hlt2⟩
     have hdrop : u.kids.drop k = x :: u.kids.drop (k + 1) := by
       rw [List.drop_eq_getElem_cons hlt2]
       congr 1
       exact (List.getElem?_eq_some_iff.1 hx).2
     rw [hdrop, sizeL] at hinv
     by_cases hnm : n ≤ m
     · have hux := uv_eq x
       have hp := sizeN_pos x (d + 1) (m - n) (by omega)
       have hkc := kid_lt' hx
       have hI := ih x (d + 1) (m - n) (by omega) (by omega) (by omega) (by omega) (by omega)
       rw [if_pos hnm] at hinv
       generalize sizeN x (d + 1) (m - n) = q at hI hp hinv
       rw [hux] at hI
       (try (conv => whnf)); (repeat ((first | refine qT ?_ | refine qF ?_ | refine qO ?_ | (with_reducible intro z hz); (first | (replace hz := hz (by omega); subst hz) | subst hz)); (try (conv => whnf))))
       refine Idx.mk k (uv x) _ rfl (by simp [hx]) (by rw [hux]; try rfl) ?_
       (try (conv => whnf)); (repeat ((first | refine qT ?_ | refine qF ?_ | refine qO ?_ | (with_reducible intro z hz); (first | (replace hz := hz (by omega); subst hz) | subst hz) | (refine CallV.mk _ (hC _ _ _ (PCw.of hI)) (fun js hjs => ?_); subst hjs)); (try (conv => whnf))))
       exact ⟨(k + 1, n + q), ⟨by dsimp only; omega, by dsimp only; omega, by dsimp only; omega, hinv⟩, by dsimp only; omega, (qSL 1 rfl rfl)⟩
     · rw [if_neg hnm] at hinv
       (try (conv => whnf)); (repeat ((first | refine qT ?_ | refine qF ?_ | refine qO ?_ | (with_reducible intro z hz); (first | (replace hz := hz (by omega); subst hz) | subst hz)); (try (conv => whnf))))
       refine hfin _ ?_
       rw [← hinv]
       exact ILes.refl _
   | inr hge =>
     rw [List.drop_eq_nil_of_le hge, sizeL] at hinv
     (try (conv => whnf)); (repeat ((first | refine qT ?_ | refine qF ?_ | refine qO ?_ | (with_reducible intro z hz); (first | (replace hz := hz (by omega); subst hz) | subst hz)); (try (conv => whnf))))
     refine hfin _ ?_
     rw [← hinv]
     exact ILes.refl _
theorem few_pc (u : Ut) (m : Int) (hok : okU u) (h0 : 0 ≤ m) (hm : m ≤ 1000) : PC Tryd.prog env0 11 [uv u, .int .i64 m] [.bool (fewU u m)] := by
 have hS := size_pc u.count u 0 m (Nat.le_refl _) (by omega) (by omega) h0 hm
 have hWo := words_pc u hok
 have hue := uv_eq u
 unfold fewU
 rw [hue] at hS hWo ⊢
 generalize u.all.all fewB = b at hWo ⊢
 generalize sizeN u 0 m = q at hS ⊢
 by_cases hz : q ≤ m
 · rw [decide_eq_true hz, Bool.true_and]
   refine PC.of_va (T := tb0) eqs_ok tb_ok rfl mixed Tryd.func11 rfl rfl (Nat.le_of_ble_eq_true rfl) ?_; intro Γ C WK LP fin h0 hW hC hB hR hLP hfin
   (try (conv => whnf)); (repeat ((first | refine qT ?_ | refine qF ?_ | refine qO ?_ | (with_reducible intro z hz); (first | (replace hz := hz (by omega); subst hz) | subst hz) | (refine CallV.mk _ (hC _ _ _ (PCw.of hS)) (fun js hjs => ?_); subst hjs) | (refine CallV.mk _ (hC _ _ _ (PCw.of hWo)) (fun js hjs => ?_); subst hjs)); (try (conv => whnf))))
   exact hfin _ (ILes.refl _)
 · rw [decide_eq_false hz, Bool.false_and]
   refine PC.of_va (T := tb0) eqs_ok tb_ok rfl mixed Tryd.func11 rfl rfl (Nat.le_of_ble_eq_true rfl) ?_; intro Γ C WK LP fin h0 hW hC hB hR hLP hfin
   (try (conv => whnf)); (repeat ((first | refine qT ?_ | refine qF ?_ | refine qO ?_ | (with_reducible intro z hz); (first | (replace hz := hz (by omega); subst hz) | subst hz) | (refine CallV.mk _ (hC _ _ _ (PCw.of hS)) (fun js hjs => ?_); subst hjs)); (try (conv => whnf))))
   exact hfin _ (ILes.refl _)
theorem take_atG {α : Type} {l : List α} {k : Nat} {x : α} (hx : l[k]? = some x) : l.take (k + 1) = l.take k ++ [x] := by rw [List.take_add_one, hx]; rfl
theorem alike_pc (a b : List Trip) (hb : b.length ≤ 100000000) : PC Tryd.prog env0 21 [.sl 3 (a.map idv), .sl 3 (b.map idv)] [.bool (decide (a = b))] := by
 have hal : (a.map idv).length = a.length := List.length_map _
 have hbl : (b.map idv).length = b.length := List.length_map _
 by_cases hlen : a.length = b.length
 rotate_left
 · have hne : a ≠ b := fun h => hlen (by rw [h])
   rw [decide_eq_false hne]
   refine PC.of_va (T := tb0) eqs_ok tb_ok rfl mixed Tryd.func21 rfl rfl (Nat.le_of_ble_eq_true rfl) ?_; intro Γ C WK LP fin h0 hW hC hB hR hLP hfin
   (try (conv => whnf)); (repeat ((first | refine qT ?_ | refine qF ?_ | refine qO ?_ | (with_reducible intro z hz); (first | (replace hz := hz (by omega); subst hz) | subst hz)); (try (conv => whnf))))
   exact hfin _ (ILes.refl _)
 refine PC.of_va (T := tb0) eqs_ok tb_ok rfl mixed Tryd.func21 rfl rfl (Nat.le_of_ble_eq_true rfl) ?_; intro Γ C WK LP fin h0 hW hC hB hR hLP hfin
 (try (conv => whnf)); (repeat ((first | refine qT ?_ | refine qF ?_ | refine qO ?_ | (with_reducible intro z hz); (first | (replace hz := hz (by omega); subst hz) | subst hz)); (try (conv => whnf))))
 refine hLP _ _ _ Nat (fun k => ⟨[(0, .imm (.sl 3 (a.map idv))), (1, .imm (.sl 3 (b.map idv))), (5, .imm (.int .i64 (k : Nat)))], []⟩) (fun k => k ≤ a.length ∧ a.take k = b.take k) (fun k => a.length - k) 0 ⟨Nat.zero_le _, rfl⟩ (qSL 0 rfl rfl) ?_
 rintro k ⟨hk, hp⟩
 have hho := Nat.lt_or_ge k a.length
 cases hho with
 | inr hge =>
   obtain rfl : k = a.length := by omega
   rw [List.take_length, hlen, List.take_length] at hp
   rw [decide_eq_true hp] at hfin
   (try (conv => whnf)); (repeat ((first | refine qT ?_ | refine qF ?_ | refine qO ?_ | (with_reducible intro z hz); (first | (replace hz := hz (by omega); subst hz) | subst hz)); (try (conv => whnf))))
   exact hfin _ (ILes.refl _)
 | inl hlt =>
   obtain ⟨x, hx⟩ : ∃ x, a[k]? = some x := ⟨a[k], List.getElem?_eq_getElem hlt⟩
   obtain ⟨y, hy⟩ : ∃ y, b[k]? = some y := ⟨b[k]'(by omega), List.getElem?_eq_getElem (by omega)⟩
   have heq : eqC (idl x) (idl y) = decide (x = y) := by
     obtain ⟨x2, x3, x4⟩ := x
     obtain ⟨y2, y3, y4⟩ := y
     simp only [idl, eqC, Trip.mk.injEq, Bool.and_true]
     by_cases h2 : x2 = y2 <;> by_cases h3 : x3 = y3 <;> by_cases h4 : x4 = y4 <;> simp [h2, h3, h4]
   by_cases hxy : x = y
   · rw [decide_eq_true hxy] at heq
     (try (conv => whnf)); (repeat ((first | refine qT ?_ | refine qF ?_ | refine qO ?_ | (with_reducible intro z hz); (first | (replace hz := hz (by omega); subst hz) | subst hz)); (try (conv => whnf))))
     refine Idx.mk k (idv x) _ rfl (by simp [hx]) rfl ?_
     (try (conv => whnf)); (repeat ((first | refine qT ?_ | refine qF ?_ | refine qO ?_ | (with_reducible intro z hz); (first | (replace hz := hz (by omega); subst hz) | subst hz)); (try (conv => whnf))))
     refine Idx.mk k (idv y) _ rfl (by simp [hy]) rfl ?_
     (try (conv => whnf)); (repeat ((first | refine qT ?_ | refine qF ?_ | refine qO ?_ | (with_reducible intro z hz); (first | (replace hz := hz (by omega); subst hz) | subst hz)); (try (conv => whnf))))
     exact ⟨k + 1, ⟨by omega, by rw [take_atG hx, take_atG hy, hp, hxy]⟩, by dsimp only; omega, (qSL 0 rfl rfl)⟩
   · rw [decide_eq_false hxy] at heq
     have hne : a ≠ b := fun h => hxy (by rw [h, hy] at hx; exact (Option.some.inj hx).symm)
     rw [decide_eq_false hne] at hfin
     (try (conv => whnf)); (repeat ((first | refine qT ?_ | refine qF ?_ | refine qO ?_ | (with_reducible intro z hz); (first | (replace hz := hz (by omega); subst hz) | subst hz)); (try (conv => whnf))))
     refine Idx.mk k (idv x) _ rfl (by simp [hx]) rfl ?_
     (try (conv => whnf)); (repeat ((first | refine qT ?_ | refine qF ?_ | refine qO ?_ | (with_reducible intro z hz); (first | (replace hz := hz (by omega); subst hz) | subst hz)); (try (conv => whnf))))
     refine Idx.mk k (idv y) _ rfl (by simp [hy]) rfl ?_
     (try (conv => whnf)); (repeat ((first | refine qT ?_ | refine qF ?_ | refine qO ?_ | (with_reducible intro z hz); (first | (replace hz := hz (by omega); subst hz) | subst hz)); (try (conv => whnf))))
     refine Fork.mk (fun hq => absurd (hq.symm.trans heq) (by simp)) (fun hc => ?_)
     (try (conv => whnf)); (repeat ((first | refine qT ?_ | refine qF ?_ | refine qO ?_ | (with_reducible intro z hz); (first | (replace hz := hz (by omega); subst hz) | subst hz)); (try (conv => whnf))))
     exact hfin _ (ILes.refl _)
end Go.Proofs.YtkjgmnmngbfhhaaDoor.Pg
