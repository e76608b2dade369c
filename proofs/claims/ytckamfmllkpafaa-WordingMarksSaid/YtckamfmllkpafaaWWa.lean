/-
  Words that are marked; texts of words; by the program and by the reference.
-/
import Derived.Test.YtckamfmllkpafaaUv
import Derived.Test.YtckamfmllkpafaaEqs
import Derived.Test.YtckamfmllkpafaaAqb
namespace Go.Proofs.Ytckamfmllkpafaa.Pw
open Go Go.Pv Go.RowKit Go.Proofs.Ytckamfmllkpafaa.Pu Go.Proofs.Ytckamfmllkpafaa.Pb
set_option linter.unusedSimpArgs false
open Lab Lcs Go.Proofs.Ytckamfmllkpafaa
set_option maxRecDepth 10000
set_option maxHeartbeats 16000000
theorem tq_int : tdOf Try.prog 3 = some ⟨false, 1, [.int .i64 0], .int .i64⟩ := by kernel_rfl
theorem tq_string : tdOf Try.prog 9 = some ⟨false, 1, [.str ⟨#[]⟩], .str⟩ := by kernel_rfl
theorem tq_bool : tdOf Try.prog 4 = some ⟨false, 1, [.bool false], .bool⟩ := by kernel_rfl
theorem tq_apiMark : tdOf Try.prog 47 = some ⟨true, 3, [.int .i64 0, .int .i64 0, .int .i64 0], .struct [(0, 1, false), (1, 1, false), (2, 1, false)]⟩ := by kernel_rfl
theorem tq_apiWord : tdOf Try.prog 49 = some ⟨true, 4, [.str ⟨#[]⟩, .int .i64 0, .int .i64 0, .int .i64 0], .struct [(0, 1, false), (1, 3, true)]⟩ := by kernel_rfl
theorem tq_s_apiWord : tdOf Try.prog 24 = some ⟨false, 1, [.nil], .slice 49 4 40⟩ := by kernel_rfl
theorem tq_s_string : tdOf Try.prog 34 = some ⟨false, 1, [.nil], .slice 9 1 16⟩ := by kernel_rfl
theorem tq_s_int : tdOf Try.prog 70 = some ⟨false, 1, [.nil], .slice 3 1 8⟩ := by kernel_rfl
theorem tq_apiErrno : tdOf Try.prog 50 = some ⟨false, 1, [.int .i64 0], .int .i64⟩ := by kernel_rfl
def tdl : List (TypeId × TD) := [(3, ⟨false, 1, [.int .i64 0], .int .i64⟩), (9, ⟨false, 1, [.str ⟨#[]⟩], .str⟩), (4, ⟨false, 1, [.bool false], .bool⟩), (47, ⟨true, 3, [.int .i64 0, .int .i64 0, .int .i64 0], .struct [(0, 1, false), (1, 1, false), (2, 1, false)]⟩), (49, ⟨true, 4, [.str ⟨#[]⟩, .int .i64 0, .int .i64 0, .int .i64 0], .struct [(0, 1, false), (1, 3, true)]⟩), (24, ⟨false, 1, [.nil], .slice 49 4 40⟩), (34, ⟨false, 1, [.nil], .slice 9 1 16⟩), (70, ⟨false, 1, [.nil], .slice 3 1 8⟩), (50, ⟨false, 1, [.int .i64 0], .int .i64⟩)]
theorem tdl_ok : AllTd Try.prog tdl := ⟨tq_int, tq_string, tq_bool, tq_apiMark, tq_apiWord, tq_s_apiWord, tq_s_string, tq_s_int, tq_apiErrno, trivial⟩
def tbn (fr : Nat → List Nat) (hk : Nat → Bool) : Tb := ⟨Pv.look tdl, eqs, fun _ => none, fr, hk, fun _ => 0⟩
abbrev tbf (fr : Nat → List Nat) : Tb := tbn fr fun _ => false
def tb0 : Tb := tbf fun _ => []
theorem tb_ok {fr : Nat → List Nat} {hk : Nat → Bool} : ∀ t d, (tbn fr hk).td t = some d → tdOf Try.prog t = some d := Pv.look_ok tdl_ok
def env0 : Env := ⟨fun _ => none, fun _ => True, fun _ _ _ _ => trivial⟩
theorem take_at {α : Type} {l : List α} {k : Nat} {x : α} (hx : l[k]? = some x) : l.take (k + 1) = l.take k ++ [x] := by rw [List.take_add_one, hx]; rfl
def mkW (a i : Int) : Int → List Str → List Wd
 | _, [] => []
 | f, s :: r => ⟨s, ⟨a, i, f⟩⟩ :: mkW a i (f + 1) r
theorem mkW_len (a i : Int) : ∀ (f : Int) (l : List Str), (mkW a i f l).length = l.length
 | _, [] => rfl
 | f, s :: r => by simp [mkW, mkW_len a i (f + 1) r]
theorem mkW_app (a i : Int) : ∀ (f : Int) (x y : List Str), mkW a i f (x ++ y) = mkW a i f x ++ mkW a i (f + x.length) y
 | f, [], y => by simp [mkW]
 | f, s :: r, y => by
   simp only [List.cons_append, mkW, List.length_cons]
   rw [mkW_app a i (f + 1) r y]
   congr 3
   omega
theorem mkW_take {a i f : Int} {l : List Str} {k : Nat} {s : Str} (hx : l[k]? = some s) : mkW a i f (l.take (k + 1)) = mkW a i f (l.take k) ++ [⟨s, ⟨a, i, f + k⟩⟩] := by
 have hk : (l.take k).length = k := by
   have := (List.getElem?_eq_some_iff.1 hx).1
   rw [List.length_take]; omega
 rw [take_at hx, mkW_app, hk]
 rfl
theorem mark_pc (l : List Str) (a i f : Int) (hl : l.length ≤ 1000000) (hf : -1125899906842624 ≤ f ∧ f ≤ 1125899906842624) : PC Try.prog env0 12 [.sl 1 (l.map IV.str), .int .i64 a, .int .i64 i, .int .i64 f] [.sl 4 ((mkW a i f l).map wdv)] := by
 have hml : (l.map IV.str).length = l.length := List.length_map _
 refine PC.of_va (T := tb0) eqs_ok tb_ok rfl mixed Try.func12 rfl rfl (Nat.le_of_ble_eq_true rfl) ?_; intro Γ C WK LP fin h0 hW hC hB hR hLP hfin
 (try (conv => whnf)); (repeat ((first | refine qT ?_ | refine qF ?_ | refine qO ?_ | (with_reducible intro z hz); (first | (replace hz := hz (by omega); subst hz) | subst hz)); (try (conv => whnf))))
 refine hLP _ _ _ Nat (fun k => ⟨[(1, .imm (.int .i64 a)), (2, .imm (.int .i64 i)), (3, .imm (.int .i64 f)), (9, .row 0 1), (12, .imm (.sl 1 (l.map IV.str))), (13, .imm (.int .i64 (l.length : Nat))), (14, .imm (.int .i64 (k : Nat)))], [.row 49 4 1 (((mkW a i f (l.take k)).map wdv).map .imm)]⟩) (fun k => k ≤ l.length) (fun k => l.length - k) 0 (Nat.zero_le _) ((WeakA.nilSlot 9 49 4 (Nat.le_of_ble_eq_true rfl) rfl).trans (((WeakA.row 0 (((mkW a i f (l.take 0)).map wdv).map .imm) rfl (by simp [mkW]))).trans (qSL 1 rfl rfl))) ?_
 intro k hk
 have hho := Nat.lt_or_ge k l.length
 cases hho with
 | inl hlt =>
   obtain ⟨s, hx⟩ : ∃ s, l[k]? = some s := ⟨l[k], List.getElem?_eq_getElem hlt⟩
   have hrl : (((mkW a i f (l.take k)).map wdv).map PV.imm).length = k := by rw [List.length_map, List.length_map, mkW_len, List.length_take]; omega
   have hrl2 : (mkW a i f (l.take k)).length = k := by rw [mkW_len, List.length_take]; omega
   (try (conv => whnf)); (repeat ((first | refine qT ?_ | refine qF ?_ | refine qO ?_ | (with_reducible intro z hz); (first | (replace hz := hz (by omega); subst hz) | subst hz)); (try (conv => whnf))))
   refine Idx.mk k (.str s) _ rfl (by simp [hx]) rfl ?_
   (try (conv => whnf)); (repeat ((first | refine qT ?_ | refine qF ?_ | refine qO ?_ | (with_reducible intro z hz); (first | (replace hz := hz (by omega); subst hz) | subst hz)); (try (conv => whnf))))
   exact ⟨k + 1, by omega, by dsimp only; omega, ((WeakA.row 0 (((mkW a i f (l.take (k + 1))).map wdv).map .imm) rfl (by rw [mkW_take hx]; simp [wdv]))).trans ((WeakA.renew 0 1 rfl (by first | omega | (intro _; rw [hk0 _ _ rfl]; exact Nat.le_of_ble_eq_true rfl)) (by repeat (first | exact trivial | refine And.intro (rgL_imms _ _ _ _) ?_ | refine And.intro rfl ?_))).trans (qSL 1 rfl rfl))⟩
 | inr hge =>
   (try (conv => whnf)); (repeat ((first | refine qT ?_ | refine qF ?_ | refine qO ?_ | (with_reducible intro z hz); (first | (replace hz := hz (by omega); subst hz) | subst hz)); (try (conv => whnf))))
   obtain rfl : k = l.length := by omega
   refine Imms.mk ((mkW a i f l).map wdv) (by rw [List.take_length]) ?_
   exact hfin _ (ILes.refl _)
theorem rmark_pc (l : List Str) (a i f : Int) (hl : l.length ≤ 1000000) (hf : -1125899906842624 ≤ f ∧ f ≤ 1125899906842624) : PC Try.prog env0 14 [.sl 1 (l.map IV.str), .int .i64 a, .int .i64 i, .int .i64 f] [.sl 4 ((mkW a i f l).map wdv)] := by
 have hml : (l.map IV.str).length = l.length := List.length_map _
 refine PC.of_va (T := tb0) eqs_ok tb_ok rfl mixed Try.func14 rfl rfl (Nat.le_of_ble_eq_true rfl) ?_; intro Γ C WK LP fin h0 hW hC hB hR hLP hfin
 (try (conv => whnf)); (repeat ((first | refine qT ?_ | refine qF ?_ | refine qO ?_ | (with_reducible intro z hz); (first | (replace hz := hz (by omega); subst hz) | subst hz)); (try (conv => whnf))))
 refine hLP _ _ _ Nat (fun k => ⟨[(0, .imm (.sl 1 (l.map IV.str))), (1, .imm (.int .i64 a)), (2, .imm (.int .i64 i)), (3, .imm (.int .i64 f)), (9, .row 0 1), (10, .imm (.int .i64 (k : Nat)))], [.row 49 4 1 (((mkW a i f (l.take k)).map wdv).map .imm)]⟩) (fun k => k ≤ l.length) (fun k => l.length - k) 0 (Nat.zero_le _) (((WeakA.row 0 (((mkW a i f (l.take 0)).map wdv).map .imm) rfl (by simp [mkW]))).trans (qSL 1 rfl rfl)) ?_
 intro k hk
 have hho := Nat.lt_or_ge k l.length
 cases hho with
 | inl hlt =>
   obtain ⟨s, hx⟩ : ∃ s, l[k]? = some s := ⟨l[k], List.getElem?_eq_getElem hlt⟩
   have hrl : (((mkW a i f (l.take k)).map wdv).map PV.imm).length = k := by rw [List.length_map, List.length_map, mkW_len, List.length_take]; omega
   have hrl2 : (mkW a i f (l.take k)).length = k := by rw [mkW_len, List.length_take]; omega
   (try (conv => whnf)); (repeat ((first | refine qT ?_ | refine qF ?_ | refine qO ?_ | (with_reducible intro z hz); (first | (replace hz := hz (by omega); subst hz) | subst hz)); (try (conv => whnf))))
   refine Idx.mk k (.str s) _ rfl (by simp [hx]) rfl ?_
   (try (conv => whnf)); (repeat ((first | refine qT ?_ | refine qF ?_ | refine qO ?_ | (with_reducible intro z hz); (first | (replace hz := hz (by omega); subst hz) | subst hz)); (try (conv => whnf))))
   exact ⟨k + 1, by omega, by dsimp only; omega, ((WeakA.row 0 (((mkW a i f (l.take (k + 1))).map wdv).map .imm) rfl (by rw [mkW_take hx]; simp [wdv]))).trans ((WeakA.renew 0 1 rfl (by first | omega | (intro _; rw [hk0 _ _ rfl]; exact Nat.le_of_ble_eq_true rfl)) (by repeat (first | exact trivial | refine And.intro (rgL_imms _ _ _ _) ?_ | refine And.intro rfl ?_))).trans (qSL 1 rfl rfl))⟩
 | inr hge =>
   (try (conv => whnf)); (repeat ((first | refine qT ?_ | refine qF ?_ | refine qO ?_ | (with_reducible intro z hz); (first | (replace hz := hz (by omega); subst hz) | subst hz)); (try (conv => whnf))))
   obtain rfl : k = l.length := by omega
   refine Imms.mk ((mkW a i f l).map wdv) (by rw [List.take_length]) ?_
   exact hfin _ (ILes.refl _)
def txts (w : List Wd) : List Str := w.map (·.text)
theorem strings_pc (w : List Wd) (hw : w.length ≤ 1000000) : PC Try.prog env0 16 [.sl 4 (w.map wdv)] [.sl 1 ((txts w).map IV.str)] := by
 have hml : (w.map wdv).length = w.length := List.length_map _
 refine PC.of_va (T := tb0) eqs_ok tb_ok rfl mixed Try.func16 rfl rfl (Nat.le_of_ble_eq_true rfl) ?_; intro Γ C WK LP fin h0 hW hC hB hR hLP hfin
 (try (conv => whnf)); (repeat ((first | refine qT ?_ | refine qF ?_ | refine qO ?_ | (with_reducible intro z hz); (first | (replace hz := hz (by omega); subst hz) | subst hz)); (try (conv => whnf))))
 refine hLP _ _ _ Nat (fun k => ⟨[(3, .row 0 1), (6, .imm (.sl 4 (w.map wdv))), (7, .imm (.int .i64 (w.length : Nat))), (8, .imm (.int .i64 (k : Nat)))], [.row 9 1 1 (((txts (w.take k)).map IV.str).map .imm)]⟩) (fun k => k ≤ w.length) (fun k => w.length - k) 0 (Nat.zero_le _) ((WeakA.nilSlot 3 9 1 (Nat.le_of_ble_eq_true rfl) rfl).trans (((WeakA.row 0 (((txts (w.take 0)).map IV.str).map .imm) rfl (by simp [txts]))).trans (qSL 1 rfl rfl))) ?_
 intro k hk
 have hho := Nat.lt_or_ge k w.length
 cases hho with
 | inl hlt =>
   obtain ⟨x, hx⟩ : ∃ x, w[k]? = some x := ⟨w[k], List.getElem?_eq_getElem hlt⟩
   have hrl : (((txts (w.take k)).map IV.str).map PV.imm).length = k := by simp [txts]; omega
   have hrl2 : (txts (w.take k)).length = k := by simp [txts]; omega
   (try (conv => whnf)); (repeat ((first | refine qT ?_ | refine qF ?_ | refine qO ?_ | (with_reducible intro z hz); (first | (replace hz := hz (by omega); subst hz) | subst hz)); (try (conv => whnf))))
   refine Idx.mk k (wdv x) _ rfl (by simp [hx]) rfl ?_
   (try (conv => whnf)); (repeat ((first | refine qT ?_ | refine qF ?_ | refine qO ?_ | (with_reducible intro z hz); (first | (replace hz := hz (by omega); subst hz) | subst hz)); (try (conv => whnf))))
   exact ⟨k + 1, by omega, by dsimp only; omega, ((WeakA.row 0 (((txts (w.take (k + 1))).map IV.str).map .imm) rfl (by rw [take_at hx]; simp [txts]))).trans ((WeakA.renew 0 1 rfl (by first | omega | (intro _; rw [hk0 _ _ rfl]; exact Nat.le_of_ble_eq_true rfl)) (by repeat (first | exact trivial | refine And.intro (rgL_imms _ _ _ _) ?_ | refine And.intro rfl ?_))).trans (qSL 1 rfl rfl))⟩
 | inr hge =>
   (try (conv => whnf)); (repeat ((first | refine qT ?_ | refine qF ?_ | refine qO ?_ | (with_reducible intro z hz); (first | (replace hz := hz (by omega); subst hz) | subst hz)); (try (conv => whnf))))
   obtain rfl : k = w.length := by omega
   refine Imms.mk ((txts w).map IV.str) (by rw [List.take_length]) ?_
   exact hfin _ (ILes.refl _)
theorem texts_pc (w : List Wd) (hw : w.length ≤ 1000000) : PC Try.prog env0 17 [.sl 4 (w.map wdv)] [.sl 1 ((txts w).map IV.str)] := by
 have hml : (w.map wdv).length = w.length := List.length_map _
 refine PC.of_va (T := tb0) eqs_ok tb_ok rfl mixed Try.func17 rfl rfl (Nat.le_of_ble_eq_true rfl) ?_; intro Γ C WK LP fin h0 hW hC hB hR hLP hfin
 (try (conv => whnf)); (repeat ((first | refine qT ?_ | refine qF ?_ | refine qO ?_ | (with_reducible intro z hz); (first | (replace hz := hz (by omega); subst hz) | subst hz)); (try (conv => whnf))))
 refine hLP _ _ _ Nat (fun k => ⟨[(0, .imm (.sl 4 (w.map wdv))), (3, .row 0 1), (4, .imm (.int .i64 (k : Nat)))], [.row 9 1 1 (((txts (w.take k)).map IV.str).map .imm)]⟩) (fun k => k ≤ w.length) (fun k => w.length - k) 0 (Nat.zero_le _) (((WeakA.row 0 (((txts (w.take 0)).map IV.str).map .imm) rfl (by simp [txts]))).trans (qSL 1 rfl rfl)) ?_
 intro k hk
 have hho := Nat.lt_or_ge k w.length
 cases hho with
 | inl hlt =>
   obtain ⟨x, hx⟩ : ∃ x, w[k]? = some x := ⟨w[k], List.getElem?_eq_getElem hlt⟩
   have hrl : (((txts (w.take k)).map IV.str).map PV.imm).length = k := by simp [txts]; omega
   have hrl2 : (txts (w.take k)).length = k := by simp [txts]; omega
   (try (conv => whnf)); (repeat ((first | refine qT ?_ | refine qF ?_ | refine qO ?_ | (with_reducible intro z hz); (first | (replace hz := hz (by omega); subst hz) | subst hz)); (try (conv => whnf))))
   refine Idx.mk k (wdv x) _ rfl (by simp [hx]) rfl ?_
   (try (conv => whnf)); (repeat ((first | refine qT ?_ | refine qF ?_ | refine qO ?_ | (with_reducible intro z hz); (first | (replace hz := hz (by omega); subst hz) | subst hz)); (try (conv => whnf))))
   exact ⟨k + 1, by omega, by dsimp only; omega, ((WeakA.row 0 (((txts (w.take (k + 1))).map IV.str).map .imm) rfl (by rw [take_at hx]; simp [txts]))).trans ((WeakA.renew 0 1 rfl (by first | omega | (intro _; rw [hk0 _ _ rfl]; exact Nat.le_of_ble_eq_true rfl)) (by repeat (first | exact trivial | refine And.intro (rgL_imms _ _ _ _) ?_ | refine And.intro rfl ?_))).trans (qSL 1 rfl rfl))⟩
 | inr hge =>
   (try (conv => whnf)); (repeat ((first | refine qT ?_ | refine qF ?_ | refine qO ?_ | (with_reducible intro z hz); (first | (replace hz := hz (by omega); subst hz) | subst hz)); (try (conv => whnf))))
   obtain rfl : k = w.length := by omega
   refine Imms.mk ((txts w).map IV.str) (by rw [List.take_length]) ?_
   exact hfin _ (ILes.refl _)
end Go.Proofs.Ytckamfmllkpafaa.Pw
