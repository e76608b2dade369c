/-
  Tables: types; what is valid.
-/
import Derived.Test.YtdkalehijilchaaCa
namespace Go.Proofs.Ytdkalehijilchaa.Pb
open Go Go.Pv Go.RowKit
set_option linter.unusedSimpArgs false
open Lab Lcs Go.Proofs.Ytdkalehijilchaa Go.Proofs.Ytdkalehijilchaa.Pu
set_option maxRecDepth 10000
set_option maxHeartbeats 8000000
theorem tq_int : tdOf Try.prog 3 = some ⟨false, 1, [.int .i64 0], .int .i64⟩ := by kernel_rfl
theorem tq_string : tdOf Try.prog 9 = some ⟨false, 1, [.str ⟨#[]⟩], .str⟩ := by kernel_rfl
theorem tq_bool : tdOf Try.prog 4 = some ⟨false, 1, [.bool false], .bool⟩ := by kernel_rfl
theorem tq_apiId : tdOf Try.prog 23 = some ⟨true, 3, [.int .i64 0, .int .i64 0, .int .i64 0], .struct [(0, 1, false), (1, 1, false), (2, 1, false)]⟩ := by kernel_rfl
theorem tq_apiMark : tdOf Try.prog 53 = some ⟨true, 3, [.int .i64 0, .int .i64 0, .int .i64 0], .struct [(0, 1, false), (1, 1, false), (2, 1, false)]⟩ := by kernel_rfl
theorem tq_apiWord : tdOf Try.prog 55 = some ⟨true, 4, [.str ⟨#[]⟩, .int .i64 0, .int .i64 0, .int .i64 0], .struct [(0, 1, false), (1, 3, true)]⟩ := by kernel_rfl
theorem tq_apiUnit : tdOf Try.prog 27 = some ⟨true, 8, [.int .i64 0, .int .i64 0, .int .i64 0, .int .i64 0, .str ⟨#[]⟩, .nil, .nil, .nil], .struct [(0, 3, true), (3, 1, false), (4, 1, false), (5, 1, false), (6, 1, false), (7, 1, false)]⟩ := by kernel_rfl
theorem tq_s_apiUnit : tdOf Try.prog 25 = some ⟨false, 1, [.nil], .slice 27 8 120⟩ := by kernel_rfl
theorem tq_s_apiWord : tdOf Try.prog 24 = some ⟨false, 1, [.nil], .slice 55 4 40⟩ := by kernel_rfl
theorem tq_s_string : tdOf Try.prog 40 = some ⟨false, 1, [.nil], .slice 9 1 16⟩ := by kernel_rfl
theorem tq_s_int : tdOf Try.prog 47 = some ⟨false, 1, [.nil], .slice 3 1 8⟩ := by kernel_rfl
def tdl : List (TypeId × TD) := [(3, ⟨false, 1, [.int .i64 0], .int .i64⟩), (9, ⟨false, 1, [.str ⟨#[]⟩], .str⟩), (4, ⟨false, 1, [.bool false], .bool⟩), (23, ⟨true, 3, [.int .i64 0, .int .i64 0, .int .i64 0], .struct [(0, 1, false), (1, 1, false), (2, 1, false)]⟩), (53, ⟨true, 3, [.int .i64 0, .int .i64 0, .int .i64 0], .struct [(0, 1, false), (1, 1, false), (2, 1, false)]⟩), (55, ⟨true, 4, [.str ⟨#[]⟩, .int .i64 0, .int .i64 0, .int .i64 0], .struct [(0, 1, false), (1, 3, true)]⟩), (27, ⟨true, 8, [.int .i64 0, .int .i64 0, .int .i64 0, .int .i64 0, .str ⟨#[]⟩, .nil, .nil, .nil], .struct [(0, 3, true), (3, 1, false), (4, 1, false), (5, 1, false), (6, 1, false), (7, 1, false)]⟩), (25, ⟨false, 1, [.nil], .slice 27 8 120⟩), (24, ⟨false, 1, [.nil], .slice 55 4 40⟩), (40, ⟨false, 1, [.nil], .slice 9 1 16⟩), (47, ⟨false, 1, [.nil], .slice 3 1 8⟩)]
theorem tdl_ok : AllTd Try.prog tdl := ⟨tq_int, tq_string, tq_bool, tq_apiId, tq_apiMark, tq_apiWord, tq_apiUnit, tq_s_apiUnit, tq_s_apiWord, tq_s_string, tq_s_int, trivial⟩
def tbn (fr : Nat → List Nat) (hk : Nat → Bool) : Tb := ⟨Pv.look tdl, eqs, fun _ => none, fr, hk, fun _ => 0⟩
abbrev tbf (fr : Nat → List Nat) : Tb := tbn fr fun _ => false
def tb0 : Tb := tbf fun _ => []
theorem tb_ok {fr : Nat → List Nat} {hk : Nat → Bool} : ∀ t d, (tbn fr hk).td t = some d → tdOf Try.prog t = some d := Pv.look_ok tdl_ok
theorem num_pc (l : List Ut) : PC Try.prog env0 43 [.sl 8 (l.map uv)] [.bool (numB l)] := by
 have hml : (l.map uv).length = l.length := List.length_map _
 unfold numB
 by_cases h1 : 0 < l.length
 rotate_left
 · rw [decide_eq_false h1, Bool.false_and]
   refine PC.of_va (T := tb0) eqs_ok tb_ok rfl mixed Try.func43 rfl rfl (Nat.le_of_ble_eq_true rfl) ?_; intro Γ C WK LP fin h0 hW hC hB hR hLP hfin
   (try (conv => whnf)); (repeat ((first | refine qT ?_ | refine qF ?_ | refine qO ?_ | (with_reducible intro z hz); (first | (replace hz := hz (by omega); subst hz) | subst hz)); (try (conv => whnf))))
   exact hfin _ (ILes.refl _)
 rw [decide_eq_true h1, Bool.true_and]
 by_cases h2 : l.length ≤ 64
 · rw [decide_eq_true h2]
   refine PC.of_va (T := tb0) eqs_ok tb_ok rfl mixed Try.func43 rfl rfl (Nat.le_of_ble_eq_true rfl) ?_; intro Γ C WK LP fin h0 hW hC hB hR hLP hfin
   (try (conv => whnf)); (repeat ((first | refine qT ?_ | refine qF ?_ | refine qO ?_ | (with_reducible intro z hz); (first | (replace hz := hz (by omega); subst hz) | subst hz)); (try (conv => whnf))))
   exact hfin _ (ILes.refl _)
 · rw [decide_eq_false h2]
   refine PC.of_va (T := tb0) eqs_ok tb_ok rfl mixed Try.func43 rfl rfl (Nat.le_of_ble_eq_true rfl) ?_; intro Γ C WK LP fin h0 hW hC hB hR hLP hfin
   (try (conv => whnf)); (repeat ((first | refine qT ?_ | refine qF ?_ | refine qO ?_ | (with_reducible intro z hz); (first | (replace hz := hz (by omega); subst hz) | subst hz)); (try (conv => whnf))))
   exact hfin _ (ILes.refl _)
theorem cell_pc (u : Ut) : PC Try.prog env0 56 [uv u] [.bool (cellB u)] := by
 have hue := uv_eq u
 have hml : (u.kids.map uv).length = u.kids.length := List.length_map _
 unfold cellB
 rw [hue]
 by_cases h1 : u.kind = 6
 rotate_left
 · rw [decide_eq_false h1, Bool.false_and]
   refine PC.of_va (T := tb0) eqs_ok tb_ok rfl mixed Try.func56 rfl rfl (Nat.le_of_ble_eq_true rfl) ?_; intro Γ C WK LP fin h0 hW hC hB hR hLP hfin
   (try (conv => whnf)); (repeat ((first | refine qT ?_ | refine qF ?_ | refine qO ?_ | (with_reducible intro z hz); (first | (replace hz := hz (by omega); subst hz) | subst hz)); (try (conv => whnf))))
   exact hfin _ (ILes.refl _)
 rw [decide_eq_true h1, Bool.true_and]
 by_cases h2 : u.kids.length = 0
 · rw [decide_eq_true h2]
   refine PC.of_va (T := tb0) eqs_ok tb_ok rfl mixed Try.func56 rfl rfl (Nat.le_of_ble_eq_true rfl) ?_; intro Γ C WK LP fin h0 hW hC hB hR hLP hfin
   (try (conv => whnf)); (repeat ((first | refine qT ?_ | refine qF ?_ | refine qO ?_ | (with_reducible intro z hz); (first | (replace hz := hz (by omega); subst hz) | subst hz)); (try (conv => whnf))))
   exact hfin _ (ILes.refl _)
 · rw [decide_eq_false h2]
   refine PC.of_va (T := tb0) eqs_ok tb_ok rfl mixed Try.func56 rfl rfl (Nat.le_of_ble_eq_true rfl) ?_; intro Γ C WK LP fin h0 hW hC hB hR hLP hfin
   (try (conv => whnf)); (repeat ((first | refine qT ?_ | refine qF ?_ | refine qO ?_ | (with_reducible intro z hz); (first | (replace hz := hz (by omega); subst hz) | subst hz)); (try (conv => whnf))))
   exact hfin _ (ILes.refl _)
theorem vr1_pc (u : Ut) : PC Try.prog env0 55 [uv u] [.bool (!cellB u)] := by
 have hC0 := cell_pc u
 have hue := uv_eq u
 rw [hue] at hC0 ⊢
 generalize cellB u = b at hC0 ⊢
 cases b
 · refine PC.of_va (T := tb0) eqs_ok tb_ok rfl mixed Try.func55 rfl rfl (Nat.le_of_ble_eq_true rfl) ?_; intro Γ C WK LP fin h0 hW hC hB hR hLP hfin
   (try (conv => whnf)); (repeat ((first | refine qT ?_ | refine qF ?_ | refine qO ?_ | (with_reducible intro z hz); (first | (replace hz := hz (by omega); subst hz) | subst hz) | (refine CallV.mk _ (hC _ _ _ (PCw.of hC0)) (fun js hjs => ?_); subst hjs)); (try (conv => whnf))))
   exact hfin _ (ILes.refl _)
 · refine PC.of_va (T := tb0) eqs_ok tb_ok rfl mixed Try.func55 rfl rfl (Nat.le_of_ble_eq_true rfl) ?_; intro Γ C WK LP fin h0 hW hC hB hR hLP hfin
   (try (conv => whnf)); (repeat ((first | refine qT ?_ | refine qF ?_ | refine qO ?_ | (with_reducible intro z hz); (first | (replace hz := hz (by omega); subst hz) | subst hz) | (refine CallV.mk _ (hC _ _ _ (PCw.of hC0)) (fun js hjs => ?_); subst hjs)); (try (conv => whnf))))
   exact hfin _ (ILes.refl _)
def idxOf {α : Type} (p : α → Bool) (l : List α) : Int := if l.any p then ((l.findIdx p : Nat) : Int) else -1
theorem take_at {α : Type} {l : List α} {k : Nat} {x : α} (hx : l[k]? = some x) : l.take (k + 1) = l.take k ++ [x] := by rw [List.take_add_one, hx]; rfl
theorem idxOf_hit {α : Type} {p : α → Bool} {l : List α} {k : Nat} {x : α} (hx : l[k]? = some x) (h : p x = true) (hp : ∀ y ∈ l.take k, p y = false) : idxOf p l = k := by
 unfold idxOf
 rw [if_pos (List.any_eq_true.2 ⟨x, List.mem_of_getElem? hx, h⟩)]
 obtain ⟨hk, he⟩ := List.getElem?_eq_some_iff.1 hx
 congr 1
 refine (List.findIdx_eq hk).2 ⟨by rw [he]; exact h, fun j hj => ?_⟩
 have : l[j] ∈ l.take k := by rw [List.mem_take_iff_getElem]; exact ⟨j, by omega, rfl⟩
 exact hp _ this
theorem idxOf_none {α : Type} {p : α → Bool} {l : List α} (hp : ∀ y ∈ l, p y = false) : idxOf p l = -1 := by
 unfold idxOf
 rw [if_neg]
 intro h
 obtain ⟨x, hx, he⟩ := List.any_eq_true.1 h
 rw [hp x hx] at he
 cases he
theorem idx_row (l : List Ut) (hl : l.length ≤ 100000000) : PC Try.prog env0 54 [.sl 8 (l.map uv), .fn 55] [.int .i64 (idxOf (fun u : Ut => !cellB u) l)] := by
 have hml : (l.map uv).length = l.length := List.length_map _
 refine PC.of_va (T := tb0) eqs_ok tb_ok rfl mixed Try.func54 rfl rfl (Nat.le_of_ble_eq_true rfl) ?_; intro Γ C WK LP fin h0 hW hC hB hR hLP hfin
 (try (conv => whnf)); (repeat ((first | refine qT ?_ | refine qF ?_ | refine qO ?_ | (with_reducible intro z hz); (first | (replace hz := hz (by omega); subst hz) | subst hz)); (try (conv => whnf))))
 refine hLP _ _ _ Nat (fun k => ⟨[(0, .imm (.sl 8 (l.map uv))), (1, .imm (.fn 55)), (7, .imm (.int .i64 (l.length : Nat))), (8, .imm (.int .i64 (k : Nat)))], []⟩) (fun k => k ≤ l.length ∧ ∀ x ∈ l.take k, (fun u : Ut => !cellB u) x = false) (fun k => l.length - k) 0 ⟨Nat.zero_le _, by simp⟩ (qSL 0 rfl rfl (hE := by (repeat ((conv => whnf); first | exact trivial | refine And.intro (by first | exact WkOne.any | exact WkOne.eq (by with_reducible rfl) rfl | exact WkOne.eq (congrArg (fun z => PV.imm (IV.int IntKind.i64 z)) (by first | omega | (simp [hml]; done) | (simp [hml]; omega))) rfl | exact WkOne.eq (by first | (simp [hml]; done) | fail) rfl | exact WkOne.eq rfl rfl | exact WkOne.le rfl (ILe.nil _)) ?_)))) ?_
 rintro k ⟨hk, hp⟩
 have hho := Nat.lt_or_ge k l.length
 cases hho with
 | inl hlt =>
   obtain ⟨x, hx⟩ : ∃ x, l[k]? = some x := ⟨l[k], List.getElem?_eq_getElem hlt⟩
   have hI := vr1_pc x
   have hq : ∃ b, (fun u : Ut => !cellB u) x = b := ⟨_, rfl⟩
   obtain ⟨b, hq⟩ := hq
   have hq2 := hq
   dsimp only at hq2
   rw [hq2] at hI
   rw [uv_eq x] at hI
   cases b
   · (try (conv => whnf)); (repeat ((first | refine qT ?_ | refine qF ?_ | refine qO ?_ | (with_reducible intro z hz); (first | (replace hz := hz (by omega); subst hz) | subst hz)); (try (conv => whnf))))
     refine Idx.mk k (uv x) _ rfl (by simp [hx]) (by rw [uv_eq x]) ?_
     (try (conv => whnf)); (repeat ((first | refine qT ?_ | refine qF ?_ | refine qO ?_ | (with_reducible intro z hz); (first | (replace hz := hz (by omega); subst hz) | subst hz) | (refine CallV.mk _ (hC _ _ _ (PCw.of hI)) (fun js hjs => ?_); subst hjs)); (try (conv => whnf))))
     exact ⟨k + 1, ⟨by omega, fun y hy => by
       rw [take_at hx, List.mem_append] at hy
       rcases hy with hy | hy
       · exact hp y hy
       · rw [List.mem_singleton.1 hy]; exact hq⟩, by dsimp only; omega, (qSL 0 rfl rfl)⟩
   · (try (conv => whnf)); (repeat ((first | refine qT ?_ | refine qF ?_ | refine qO ?_ | (with_reducible intro z hz); (first | (replace hz := hz (by omega); subst hz) | subst hz)); (try (conv => whnf))))
     refine Idx.mk k (uv x) _ rfl (by simp [hx]) (by rw [uv_eq x]) ?_
     (try (conv => whnf)); (repeat ((first | refine qT ?_ | refine qF ?_ | refine qO ?_ | (with_reducible intro z hz); (first | (replace hz := hz (by omega); subst hz) | subst hz) | (refine CallV.mk _ (hC _ _ _ (PCw.of hI)) (fun js hjs => ?_); subst hjs)); (try (conv => whnf))))
     rw [idxOf_hit hx hq hp] at hfin
     exact hfin _ (ILes.refl _)
 | inr hge =>
   obtain rfl : k = l.length := by omega
   rw [List.take_length] at hp
   rw [idxOf_none hp] at hfin
   (try (conv => whnf)); (repeat ((first | refine qT ?_ | refine qF ?_ | refine qO ?_ | (with_reducible intro z hz); (first | (replace hz := hz (by omega); subst hz) | subst hz)); (try (conv => whnf))))
   exact hfin _ (ILes.refl _)
theorem has_row (l : List Ut) (hl : l.length ≤ 100000000) : PC Try.prog env0 44 [.sl 8 (l.map uv), .fn 55] [.bool (l.any fun u => !cellB u)] := by
 have hI := idx_row l hl
 unfold idxOf at hI
 generalize (l.findIdx (fun u : Ut => !cellB u)) = j at hI
 generalize l.any (fun u : Ut => !cellB u) = b at hI ⊢
 cases b
 · rw [if_neg (by decide)] at hI
   refine PC.of_va (T := tb0) eqs_ok tb_ok rfl mixed Try.func44 rfl rfl (Nat.le_of_ble_eq_true rfl) ?_; intro Γ C WK LP fin h0 hW hC hB hR hLP hfin
   (try (conv => whnf)); (repeat ((first | refine qT ?_ | refine qF ?_ | refine qO ?_ | (with_reducible intro z hz); (first | (replace hz := hz (by omega); subst hz) | subst hz) | (refine CallV.mk _ (hC _ _ _ (PCw.of hI)) (fun js hjs => ?_); subst hjs)); (try (conv => whnf))))
   exact hfin _ (ILes.refl _)
 · rw [if_pos rfl] at hI
   refine PC.of_va (T := tb0) eqs_ok tb_ok rfl mixed Try.func44 rfl rfl (Nat.le_of_ble_eq_true rfl) ?_; intro Γ C WK LP fin h0 hW hC hB hR hLP hfin
   (try (conv => whnf)); (repeat ((first | refine qT ?_ | refine qF ?_ | refine qO ?_ | (with_reducible intro z hz); (first | (replace hz := hz (by omega); subst hz) | subst hz) | (refine CallV.mk _ (hC _ _ _ (PCw.of hI)) (fun js hjs => ?_); subst hjs)); (try (conv => whnf))))
   exact hfin _ (ILes.refl _)
theorem row_pc (u : Ut) (hl : u.kids.length ≤ 100000000) : PC Try.prog env0 46 [uv u] [.bool (rowB u)] := by
 have hN := num_pc u.kids
 have hH := has_row u.kids hl
 have hue := uv_eq u
 unfold rowB
 generalize numB u.kids = b at hN ⊢
 generalize (u.kids.any fun c => !cellB c) = c at hH ⊢
 rw [hue]
 by_cases h1 : u.kind = 5
 rotate_left
 · rw [decide_eq_false h1, Bool.false_and]
   refine PC.of_va (T := tb0) eqs_ok tb_ok rfl mixed Try.func46 rfl rfl (Nat.le_of_ble_eq_true rfl) ?_; intro Γ C WK LP fin h0 hW hC hB hR hLP hfin
   (try (conv => whnf)); (repeat ((first | refine qT ?_ | refine qF ?_ | refine qO ?_ | (with_reducible intro z hz); (first | (replace hz := hz (by omega); subst hz) | subst hz)); (try (conv => whnf))))
   exact hfin _ (ILes.refl _)
 rw [decide_eq_true h1, Bool.true_and]
 cases b
 · rw [Bool.false_and]
   refine PC.of_va (T := tb0) eqs_ok tb_ok rfl mixed Try.func46 rfl rfl (Nat.le_of_ble_eq_true rfl) ?_; intro Γ C WK LP fin h0 hW hC hB hR hLP hfin
   (try (conv => whnf)); (repeat ((first | refine qT ?_ | refine qF ?_ | refine qO ?_ | (with_reducible intro z hz); (first | (replace hz := hz (by omega); subst hz) | subst hz) | (refine CallV.mk _ (hC _ _ _ (PCw.of hN)) (fun js hjs => ?_); subst hjs)); (try (conv => whnf))))
   exact hfin _ (ILes.refl _)
 rw [Bool.true_and]
 cases c
 · refine PC.of_va (T := tb0) eqs_ok tb_ok rfl mixed Try.func46 rfl rfl (Nat.le_of_ble_eq_true rfl) ?_; intro Γ C WK LP fin h0 hW hC hB hR hLP hfin
   (try (conv => whnf)); (repeat ((first | refine qT ?_ | refine qF ?_ | refine qO ?_ | (with_reducible intro z hz); (first | (replace hz := hz (by omega); subst hz) | subst hz) | (refine CallV.mk _ (hC _ _ _ (PCw.of hN)) (fun js hjs => ?_); subst hjs) | (refine CallV.mk _ (hC _ _ _ (PCw.of hH)) (fun js hjs => ?_); subst hjs)); (try (conv => whnf))))
   exact hfin _ (ILes.refl _)
 · refine PC.of_va (T := tb0) eqs_ok tb_ok rfl mixed Try.func46 rfl rfl (Nat.le_of_ble_eq_true rfl) ?_; intro Γ C WK LP fin h0 hW hC hB hR hLP hfin
   (try (conv => whnf)); (repeat ((first | refine qT ?_ | refine qF ?_ | refine qO ?_ | (with_reducible intro z hz); (first | (replace hz := hz (by omega); subst hz) | subst hz) | (refine CallV.mk _ (hC _ _ _ (PCw.of hN)) (fun js hjs => ?_); subst hjs) | (refine CallV.mk _ (hC _ _ _ (PCw.of hH)) (fun js hjs => ?_); subst hjs)); (try (conv => whnf))))
   exact hfin _ (ILes.refl _)
theorem v1_pcb (n : Nat) (u : Ut) (hl : u.kids.length ≤ 100000000) : PCB Try.prog env0 45 [.imm (uv u), .ptr 0 1 0] [.box 1 [.imm (.int .i64 (n : Nat))]] [.imm (.bool (badR n u))] [.box 1 [.imm (.int .i64 (n : Nat))]] := by
 have hR0 := row_pc u hl
 have hue := uv_eq u
 have hml : (u.kids.map uv).length = u.kids.length := List.length_map _
 unfold badR
 generalize rowB u = b at hR0 ⊢
 rw [hue] at hR0 ⊢
 by_cases h1 : u.kids.length = n
 rotate_left
 · rw [decide_eq_true h1, Bool.true_or]
   refine PCB.of_va (T := tb0) eqs_ok tb_ok rfl mixed Try.func45 rfl rfl rfl (Nat.le_of_ble_eq_true rfl) rfl ?_; intro Γ C WK LP fin h0 hk0 hW hC hB hR hLP hfin
   (try (conv => whnf)); (repeat ((first | refine qT ?_ | refine qF ?_ | refine qO ?_ | (with_reducible intro z hz); (first | (replace hz := hz (by omega); subst hz) | subst hz)); (try (conv => whnf))))
   exact hfin _ (qSL 1 rfl rfl)
 rw [decide_eq_false (fun e => e h1), Bool.false_or]
 cases b
 · refine PCB.of_va (T := tb0) eqs_ok tb_ok rfl mixed Try.func45 rfl rfl rfl (Nat.le_of_ble_eq_true rfl) rfl ?_; intro Γ C WK LP fin h0 hk0 hW hC hB hR hLP hfin
   (try (conv => whnf)); (repeat ((first | refine qT ?_ | refine qF ?_ | refine qO ?_ | (with_reducible intro z hz); (first | (replace hz := hz (by omega); subst hz) | subst hz) | (refine CallV.mk _ (hC _ _ _ (PCw.of hR0)) (fun js hjs => ?_); subst hjs)); (try (conv => whnf))))
   exact hfin _ (qSL 1 rfl rfl)
 · refine PCB.of_va (T := tb0) eqs_ok tb_ok rfl mixed Try.func45 rfl rfl rfl (Nat.le_of_ble_eq_true rfl) rfl ?_; intro Γ C WK LP fin h0 hk0 hW hC hB hR hLP hfin
   (try (conv => whnf)); (repeat ((first | refine qT ?_ | refine qF ?_ | refine qO ?_ | (with_reducible intro z hz); (first | (replace hz := hz (by omega); subst hz) | subst hz) | (refine CallV.mk _ (hC _ _ _ (PCw.of hR0)) (fun js hjs => ?_); subst hjs)); (try (conv => whnf))))
   exact hfin _ (qSL 1 rfl rfl)
theorem idx_bad (n : Nat) (l : List Ut) (hl : l.length ≤ 100000000) (hk2 : ∀ x ∈ l, x.kids.length ≤ 100000000) : PCB Try.prog env0 54 [.imm (.sl 8 (l.map uv)), .clo 45 [.ptr 0 1 0]] [.box 1 [.imm (.int .i64 (n : Nat))]] [.imm (.int .i64 (idxOf (badR n) l))] [.box 1 [.imm (.int .i64 (n : Nat))]] := by
 have hml : (l.map uv).length = l.length := List.length_map _
 refine PCB.of_va (T := tb0) eqs_ok tb_ok rfl mixed Try.func54 rfl rfl rfl (Nat.le_of_ble_eq_true rfl) rfl ?_; intro Γ C WK LP fin h0 hk0 hW hC hB hR hLP hfin
 (try (conv => whnf)); (repeat ((first | refine qT ?_ | refine qF ?_ | refine qO ?_ | (with_reducible intro z hz); (first | (replace hz := hz (by omega); subst hz) | subst hz)); (try (conv => whnf))))
 refine hLP _ _ _ Nat (fun k => ⟨[(0, .imm (.sl 8 (l.map uv))), (1, .clo 45 [.ptr 0 1 0]), (7, .imm (.int .i64 (l.length : Nat))), (8, .imm (.int .i64 (k : Nat)))], [.box 1 [.imm (.int .i64 (n : Nat))]]⟩) (fun k => k ≤ l.length ∧ ∀ x ∈ l.take k, badR n x = false) (fun k => l.length - k) 0 ⟨Nat.zero_le _, by simp⟩ (qSL 1 rfl rfl (hE := by (repeat ((conv => whnf); first | exact trivial | refine And.intro (by first | exact WkOne.any | exact WkOne.eq (by with_reducible rfl) rfl | exact WkOne.eq (congrArg (fun z => PV.imm (IV.int IntKind.i64 z)) (by first | omega | (simp [hml]; done) | (simp [hml]; omega))) rfl | exact WkOne.eq (by first | (simp [hml]; done) | fail) rfl | exact WkOne.eq rfl rfl | exact WkOne.le rfl (ILe.nil _)) ?_)))) ?_
 rintro k ⟨hk, hp⟩
 have hho := Nat.lt_or_ge k l.length
 cases hho with
 | inl hlt =>
   obtain ⟨x, hx⟩ : ∃ x, l[k]? = some x := ⟨l[k], List.getElem?_eq_getElem hlt⟩
   have hI := v1_pcb n x (hk2 x (List.mem_of_getElem? hx))
   have hq : ∃ b, badR n x = b := ⟨_, rfl⟩
   obtain ⟨b, hq⟩ := hq
   rw [hq] at hI
   rw [uv_eq x] at hI
   cases b
   · (try (conv => whnf)); (repeat ((first | refine qT ?_ | refine qF ?_ | refine qO ?_ | (with_reducible intro z hz); (first | (replace hz := hz (by omega); subst hz) | subst hz)); (try (conv => whnf))))
     refine Idx.mk k (uv x) _ rfl (by simp [hx]) (by rw [uv_eq x]) ?_
     (try (conv => whnf)); (repeat ((first | refine qT ?_ | refine qF ?_ | refine qO ?_ | (with_reducible intro z hz); (first | (replace hz := hz (by omega); subst hz) | subst hz)); (try (conv => whnf))))
     refine CallB.mk ([.imm (.bool false)]) ([.box 1 [.imm (.int .i64 (n : Nat))]]) (hB _ _ _ _ _ (hI)) ?_
     (try (conv => whnf)); (repeat ((first | refine qT ?_ | refine qF ?_ | refine qO ?_ | (with_reducible intro z hz); (first | (replace hz := hz (by omega); subst hz) | subst hz)); (try (conv => whnf))))
     exact ⟨k + 1, ⟨by omega, fun y hy => by
       rw [take_at hx, List.mem_append] at hy
       rcases hy with hy | hy
       · exact hp y hy
       · rw [List.mem_singleton.1 hy]; exact hq⟩, by dsimp only; omega, (qSL 1 rfl rfl)⟩
   · (try (conv => whnf)); (repeat ((first | refine qT ?_ | refine qF ?_ | refine qO ?_ | (with_reducible intro z hz); (first | (replace hz := hz (by omega); subst hz) | subst hz)); (try (conv => whnf))))
     refine Idx.mk k (uv x) _ rfl (by simp [hx]) (by rw [uv_eq x]) ?_
     (try (conv => whnf)); (repeat ((first | refine qT ?_ | refine qF ?_ | refine qO ?_ | (with_reducible intro z hz); (first | (replace hz := hz (by omega); subst hz) | subst hz)); (try (conv => whnf))))
     refine CallB.mk ([.imm (.bool true)]) ([.box 1 [.imm (.int .i64 (n : Nat))]]) (hB _ _ _ _ _ (hI)) ?_
     (try (conv => whnf)); (repeat ((first | refine qT ?_ | refine qF ?_ | refine qO ?_ | (with_reducible intro z hz); (first | (replace hz := hz (by omega); subst hz) | subst hz)); (try (conv => whnf))))
     rw [idxOf_hit hx hq hp] at hfin
     exact hfin _ (qSL 1 rfl rfl)
 | inr hge =>
   obtain rfl : k = l.length := by omega
   rw [List.take_length] at hp
   rw [idxOf_none hp] at hfin
   (try (conv => whnf)); (repeat ((first | refine qT ?_ | refine qF ?_ | refine qO ?_ | (with_reducible intro z hz); (first | (replace hz := hz (by omega); subst hz) | subst hz)); (try (conv => whnf))))
   exact hfin _ (qSL 1 rfl rfl)
theorem has_bad (n : Nat) (l : List Ut) (hl : l.length ≤ 100000000) (hk2 : ∀ x ∈ l, x.kids.length ≤ 100000000) : PCB Try.prog env0 44 [.imm (.sl 8 (l.map uv)), .clo 45 [.ptr 0 1 0]] [.box 1 [.imm (.int .i64 (n : Nat))]] [.imm (.bool (l.any (badR n)))] [.box 1 [.imm (.int .i64 (n : Nat))]] := by
 have hI := idx_bad n l hl hk2
 unfold idxOf at hI
 generalize (l.findIdx (badR n)) = j at hI
 generalize l.any (badR n) = b at hI ⊢
 cases b
 · rw [if_neg (by decide)] at hI
   refine PCB.of_va (T := tb0) eqs_ok tb_ok rfl mixed Try.func44 rfl rfl rfl (Nat.le_of_ble_eq_true rfl) rfl ?_; intro Γ C WK LP fin h0 hk0 hW hC hB hR hLP hfin
   (try (conv => whnf)); (repeat ((first | refine qT ?_ | refine qF ?_ | refine qO ?_ | (with_reducible intro z hz); (first | (replace hz := hz (by omega); subst hz) | subst hz)); (try (conv => whnf))))
   refine CallB.mk ([.imm (.int .i64 (-1))]) ([.box 1 [.imm (.int .i64 (n : Nat))]]) (hB _ _ _ _ _ (hI)) ?_
   (try (conv => whnf)); (repeat ((first | refine qT ?_ | refine qF ?_ | refine qO ?_ | (with_reducible intro z hz); (first | (replace hz := hz (by omega); subst hz) | subst hz)); (try (conv => whnf))))
   exact hfin _ (qSL 1 rfl rfl)
 · rw [if_pos rfl] at hI
   refine PCB.of_va (T := tb0) eqs_ok tb_ok rfl mixed Try.func44 rfl rfl rfl (Nat.le_of_ble_eq_true rfl) rfl ?_; intro Γ C WK LP fin h0 hk0 hW hC hB hR hLP hfin
   (try (conv => whnf)); (repeat ((first | refine qT ?_ | refine qF ?_ | refine qO ?_ | (with_reducible intro z hz); (first | (replace hz := hz (by omega); subst hz) | subst hz)); (try (conv => whnf))))
   refine CallB.mk ([.imm (.int .i64 (j : Nat))]) ([.box 1 [.imm (.int .i64 (n : Nat))]]) (hB _ _ _ _ _ (hI)) ?_
   (try (conv => whnf)); (repeat ((first | refine qT ?_ | refine qF ?_ | refine qO ?_ | (with_reducible intro z hz); (first | (replace hz := hz (by omega); subst hz) | subst hz)); (try (conv => whnf))))
   exact hfin _ (qSL 1 rfl rfl)
def Smal (t : Ut) : Prop := ∀ x ∈ t.all, x.kids.length ≤ 60 ∧ x.words.length ≤ 300 ∧ ∀ a ∈ x.words, a.text.size ≤ 100
theorem all_kid {u k : Ut} (h : k ∈ u.kids) : ∀ y ∈ k.all, y ∈ u.all := fun y hy => by
 rw [Ut.all_eq]
 refine List.mem_cons_of_mem _ ?_
 generalize u.kids = l at h
 induction l with
 | nil => cases h
 | cons a l ih =>
   unfold Ut.alls
   rcases List.mem_cons.1 h with rfl | h
   · exact List.mem_append_left _ hy
   · exact List.mem_append_right _ (ih h)
theorem all_self (u : Ut) : u ∈ u.all := by rw [Ut.all_eq]; exact List.mem_cons_self
theorem Smal.kid {t r : Ut} (h : Smal t) (hr : r ∈ t.kids) : Smal r := fun x hx => h x (all_kid hr x hx)
theorem Smal.kids {t : Ut} (h : Smal t) : t.kids.length ≤ 60 := (h t (all_self t)).1
def Smk (t : Ut) : Prop := ∀ x ∈ t.all, x.kids.length ≤ 60 ∧ x.words.length ≤ 300
theorem Smal.k {t : Ut} (h : Smal t) : Smk t := fun x hx => ⟨(h x hx).1, (h x hx).2.1⟩
theorem Smk.kid {t r : Ut} (h : Smk t) (hr : r ∈ t.kids) : Smk r := fun x hx => h x (all_kid hr x hx)
theorem Smk.kids {t : Ut} (h : Smk t) : t.kids.length ≤ 60 := (h t (all_self t)).1
theorem valid_pk (t : Ut) (h : Smk t) : PC Try.prog env0 35 [uv t] [.bool (validT t)] := by
 have hl := h.kids
 have hN := num_pc t.kids
 have hH := has_bad (colsN t) t.kids (by omega) (fun x hx => by have := (h.kid hx).kids; omega)
 have hte := uv_eq t
 have hml : (t.kids.map uv).length = t.kids.length := List.length_map _
 unfold validT
 generalize (t.kids.any (badR (colsN t))) = c at hH ⊢
 by_cases h1 : t.kind = 4
 rotate_left
 · rw [decide_eq_false h1, Bool.false_and]
   rw [hte]
   refine PC.of_va (T := tb0) eqs_ok tb_ok rfl mixed Try.func35 rfl rfl (Nat.le_of_ble_eq_true rfl) ?_; intro Γ C WK LP fin h0 hW hC hB hR hLP hfin
   (try (conv => whnf)); (repeat ((first | refine qT ?_ | refine qF ?_ | refine qO ?_ | (with_reducible intro z hz); (first | (replace hz := hz (by omega); subst hz) | subst hz)); (try (conv => whnf))))
   exact hfin _ (ILes.refl _)
 rw [decide_eq_true h1, Bool.true_and]
 by_cases hn : numB t.kids = true
 rotate_left
 · rw [Bool.not_eq_true] at hn
   rw [hn, Bool.false_and]
   rw [hn] at hN
   rw [hte]
   refine PC.of_va (T := tb0) eqs_ok tb_ok rfl mixed Try.func35 rfl rfl (Nat.le_of_ble_eq_true rfl) ?_; intro Γ C WK LP fin h0 hW hC hB hR hLP hfin
   (try (conv => whnf)); (repeat ((first | refine qT ?_ | refine qF ?_ | refine qO ?_ | (with_reducible intro z hz); (first | (replace hz := hz (by omega); subst hz) | subst hz) | (refine CallV.mk _ (hC _ _ _ (PCw.of hN)) (fun js hjs => ?_); subst hjs)); (try (conv => whnf))))
   exact hfin _ (ILes.refl _)
 have h0 : 0 < t.kids.length := by
   unfold numB at hn
   simp only [Bool.and_eq_true, decide_eq_true_eq] at hn
   exact hn.1
 obtain ⟨r, hr⟩ : ∃ r, t.kids[0]? = some r := ⟨t.kids[0], List.getElem?_eq_getElem h0⟩
 have hcn : colsN t = r.kids.length := by unfold colsN; rw [hr]; rfl
 have hre := uv_eq r
 have hmr : (r.kids.map uv).length = r.kids.length := List.length_map _
 rw [hcn] at hH
 rw [hn] at hN
 rw [hn, Bool.true_and]
 rw [hte]
 cases c
 · refine PC.of_va (T := tb0) eqs_ok tb_ok rfl mixed Try.func35 rfl rfl (Nat.le_of_ble_eq_true rfl) ?_; intro Γ C WK LP fin h0 hW hC hB hR hLP hfin
   (try (conv => whnf)); (repeat ((first | refine qT ?_ | refine qF ?_ | refine qO ?_ | (with_reducible intro z hz); (first | (replace hz := hz (by omega); subst hz) | subst hz) | (refine CallV.mk _ (hC _ _ _ (PCw.of hN)) (fun js hjs => ?_); subst hjs)); (try (conv => whnf))))
   refine Idx.mk 0 (uv r) _ rfl (by simp [hr]) (by rw [hre]; try rfl) ?_
   (try (conv => whnf)); (repeat ((first | refine qT ?_ | refine qF ?_ | refine qO ?_ | (with_reducible intro z hz); (first | (replace hz := hz (by omega); subst hz) | subst hz)); (try (conv => whnf))))
   rw [hmr]
   (try (conv => whnf)); (repeat ((first | refine qT ?_ | refine qF ?_ | refine qO ?_ | (with_reducible intro z hz); (first | (replace hz := hz (by omega); subst hz) | subst hz)); (try (conv => whnf))))
   refine CallB.mk ([.imm (.bool false)]) ([.box 1 [.imm (.int .i64 (r.kids.length : Nat))]]) (hB _ _ _ _ _ (hH)) ?_
   (try (conv => whnf)); (repeat ((first | refine qT ?_ | refine qF ?_ | refine qO ?_ | (with_reducible intro z hz); (first | (replace hz := hz (by omega); subst hz) | subst hz)); (try (conv => whnf))))
   exact hfin _ (ILes.refl _)
 · refine PC.of_va (T := tb0) eqs_ok tb_ok rfl mixed Try.func35 rfl rfl (Nat.le_of_ble_eq_true rfl) ?_; intro Γ C WK LP fin h0 hW hC hB hR hLP hfin
   (try (conv => whnf)); (repeat ((first | refine qT ?_ | refine qF ?_ | refine qO ?_ | (with_reducible intro z hz); (first | (replace hz := hz (by omega); subst hz) | subst hz) | (refine CallV.mk _ (hC _ _ _ (PCw.of hN)) (fun js hjs => ?_); subst hjs)); (try (conv => whnf))))
   refine Idx.mk 0 (uv r) _ rfl (by simp [hr]) (by rw [hre]; try rfl) ?_
   (try (conv => whnf)); (repeat ((first | refine qT ?_ | refine qF ?_ | refine qO ?_ | (with_reducible intro z hz); (first | (replace hz := hz (by omega); subst hz) | subst hz)); (try (conv => whnf))))
   rw [hmr]
   (try (conv => whnf)); (repeat ((first | refine qT ?_ | refine qF ?_ | refine qO ?_ | (with_reducible intro z hz); (first | (replace hz := hz (by omega); subst hz) | subst hz)); (try (conv => whnf))))
   refine CallB.mk ([.imm (.bool true)]) ([.box 1 [.imm (.int .i64 (r.kids.length : Nat))]]) (hB _ _ _ _ _ (hH)) ?_
   (try (conv => whnf)); (repeat ((first | refine qT ?_ | refine qF ?_ | refine qO ?_ | (with_reducible intro z hz); (first | (replace hz := hz (by omega); subst hz) | subst hz)); (try (conv => whnf))))
   exact hfin _ (ILes.refl _)
theorem valid_pc (t : Ut) (h : Smal t) : PC Try.prog env0 35 [uv t] [.bool (validT t)] := valid_pk t h.k
end Go.Proofs.Ytdkalehijilchaa.Pb
