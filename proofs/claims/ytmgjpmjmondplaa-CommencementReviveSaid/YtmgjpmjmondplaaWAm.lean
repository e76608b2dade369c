/-
  Contains; orders and declarations that are appended (mathematics of the laws).
-/
import Derived.Test.YtmgjpmjmondplaaWAl
namespace Go.Proofs.Ytmgjpmjmondplaa.Pe
open Go Go.Pv Go.RowKit
set_option linter.unusedSimpArgs false
open Spans Rm
set_option maxRecDepth 10000
set_option maxHeartbeats 16000000
def inS (d : Int) (s : Sp) : Bool := decide (s.1 ≤ d ∧ d < s.2)
theorem memB_any (L : List Sp) (d : Int) : memB L d = L.any (inS d) := by
 induction L with
 | nil => rfl
 | cons s r ih => rw [memB, ih]; rfl
theorem inc_pcb (d : Int) (s : Sp) : PCB Try.prog env0 35 [.imm (spv s), .ptr 0 1 0] [.box 1 [.imm (.int .i64 d)]] [.imm (.bool (inS d s))] [.box 1 [.imm (.int .i64 d)]] := by
 unfold spv inS
 by_cases h1 : s.1 ≤ d
 · by_cases h2 : d < s.2
   · rw [decide_eq_true ⟨h1, h2⟩]
     refine PCB.of_va (T := tb0) eqs_ok tb_ok rfl mixed Try.func35 rfl rfl rfl (Nat.le_of_ble_eq_true rfl) rfl ?_; intro Γ C WK LP fin h0 hk0 hW hC hB hR hLP hfin
     (try (conv => whnf)); (repeat ((first | refine qT ?_ | refine qF ?_ | refine qO ?_ | (with_reducible intro z hz); (first | (replace hz := hz (by omega); subst hz) | subst hz)); (try (conv => whnf))))
     exact hfin _ (qSL 1 rfl rfl)
   · rw [decide_eq_false (fun h => h2 h.2)]
     refine PCB.of_va (T := tb0) eqs_ok tb_ok rfl mixed Try.func35 rfl rfl rfl (Nat.le_of_ble_eq_true rfl) rfl ?_; intro Γ C WK LP fin h0 hk0 hW hC hB hR hLP hfin
     (try (conv => whnf)); (repeat ((first | refine qT ?_ | refine qF ?_ | refine qO ?_ | (with_reducible intro z hz); (first | (replace hz := hz (by omega); subst hz) | subst hz)); (try (conv => whnf))))
     exact hfin _ (qSL 1 rfl rfl)
 · rw [decide_eq_false (fun h => h1 h.1)]
   refine PCB.of_va (T := tb0) eqs_ok tb_ok rfl mixed Try.func35 rfl rfl rfl (Nat.le_of_ble_eq_true rfl) rfl ?_; intro Γ C WK LP fin h0 hk0 hW hC hB hR hLP hfin
   (try (conv => whnf)); (repeat ((first | refine qT ?_ | refine qF ?_ | refine qO ?_ | (with_reducible intro z hz); (first | (replace hz := hz (by omega); subst hz) | subst hz)); (try (conv => whnf))))
   exact hfin _ (qSL 1 rfl rfl)
theorem idx_in (d : Int) (l : List Sp) (hl : l.length ≤ 1000000000) : PCB Try.prog env0 40 [.imm (.sl 2 (l.map spv)), .clo 35 [.ptr 0 1 0]] [.box 1 [.imm (.int .i64 d)]] [.imm (.int .i64 (Go.Proofs.Ytmgjpmjmondplaa.Pe.idxOf (inS d) l))] [.box 1 [.imm (.int .i64 d)]] := by
 have hml : (l.map spv).length = l.length := List.length_map _
 refine PCB.of_va (T := tb0) eqs_ok tb_ok rfl mixed Try.func40 rfl rfl rfl (Nat.le_of_ble_eq_true rfl) rfl ?_; intro Γ C WK LP fin h0 hk0 hW hC hB hR hLP hfin
 (try (conv => whnf)); (repeat ((first | refine qT ?_ | refine qF ?_ | refine qO ?_ | (with_reducible intro z hz); (first | (replace hz := hz (by omega); subst hz) | subst hz)); (try (conv => whnf))))
 refine hLP _ _ _ Nat (fun k => ⟨[(0, .imm (.sl 2 (l.map spv))), (1, .clo 35 [.ptr 0 1 0]), (7, .imm (.int .i64 (l.length : Nat))), (8, .imm (.int .i64 (k : Nat)))], [.box 1 [.imm (.int .i64 d)]]⟩) (fun k => k ≤ l.length ∧ ∀ x ∈ l.take k, inS d x = false) (fun k => l.length - k) 0 ⟨Nat.zero_le _, by simp⟩ (qSL 1 rfl rfl (hE := by (repeat ((conv => whnf); first | exact trivial | refine And.intro (by first | exact WkOne.any | exact WkOne.eq (by with_reducible rfl) rfl | exact WkOne.eq (congrArg (fun z => PV.imm (IV.int IntKind.i64 z)) (by first | omega | (simp [hml]; done) | (simp [hml]; omega))) rfl | exact WkOne.eq (by first | (simp [hml]; done) | fail) rfl | exact WkOne.eq rfl rfl | exact WkOne.le rfl (ILe.nil _)) ?_)))) ?_
 rintro k ⟨hk, hp⟩
 have hho := Nat.lt_or_ge k l.length
 cases hho with
 | inl hlt =>
   obtain ⟨x, hx⟩ : ∃ x, l[k]? = some x := ⟨l[k], List.getElem?_eq_getElem hlt⟩
   have hI := inc_pcb d x
   obtain ⟨b, hq⟩ : ∃ b, inS d x = b := ⟨_, rfl⟩
   rw [hq] at hI
   unfold spv at hI
   cases b
   · (try (conv => whnf)); (repeat ((first | refine qT ?_ | refine qF ?_ | refine qO ?_ | (with_reducible intro z hz); (first | (replace hz := hz (by omega); subst hz) | subst hz)); (try (conv => whnf))))
     refine Idx.mk k (spv x) _ rfl (by simp [hx]) rfl ?_
     (try (conv => whnf)); (repeat ((first | refine qT ?_ | refine qF ?_ | refine qO ?_ | (with_reducible intro z hz); (first | (replace hz := hz (by omega); subst hz) | subst hz)); (try (conv => whnf))))
     refine CallB.mk ([.imm (.bool false)]) ([.box 1 [.imm (.int .i64 d)]]) (hB _ _ _ _ _ (hI)) ?_
     (try (conv => whnf)); (repeat ((first | refine qT ?_ | refine qF ?_ | refine qO ?_ | (with_reducible intro z hz); (first | (replace hz := hz (by omega); subst hz) | subst hz)); (try (conv => whnf))))
     exact ⟨k + 1, ⟨by omega, fun y hy => by
       rw [take_at hx, List.mem_append] at hy
       rcases hy with hy | hy
       · exact hp y hy
       · rw [List.mem_singleton.1 hy]; exact hq⟩, by dsimp only; omega, (qSL 1 rfl rfl)⟩
   · (try (conv => whnf)); (repeat ((first | refine qT ?_ | refine qF ?_ | refine qO ?_ | (with_reducible intro z hz); (first | (replace hz := hz (by omega); subst hz) | subst hz)); (try (conv => whnf))))
     refine Idx.mk k (spv x) _ rfl (by simp [hx]) rfl ?_
     (try (conv => whnf)); (repeat ((first | refine qT ?_ | refine qF ?_ | refine qO ?_ | (with_reducible intro z hz); (first | (replace hz := hz (by omega); subst hz) | subst hz)); (try (conv => whnf))))
     refine CallB.mk ([.imm (.bool true)]) ([.box 1 [.imm (.int .i64 d)]]) (hB _ _ _ _ _ (hI)) ?_
     (try (conv => whnf)); (repeat ((first | refine qT ?_ | refine qF ?_ | refine qO ?_ | (with_reducible intro z hz); (first | (replace hz := hz (by omega); subst hz) | subst hz)); (try (conv => whnf))))
     rw [idxOf_hit hx hq hp] at hfin
     exact hfin _ (qSL 1 rfl rfl)
 | inr hge =>
   (try (conv => whnf)); (repeat ((first | refine qT ?_ | refine qF ?_ | refine qO ?_ | (with_reducible intro z hz); (first | (replace hz := hz (by omega); subst hz) | subst hz)); (try (conv => whnf))))
   obtain rfl : k = l.length := by omega
   rw [List.take_length] at hp
   rw [idxOf_none hp] at hfin
   exact hfin _ (qSL 1 rfl rfl)
theorem any_in (d : Int) (l : List Sp) (hl : l.length ≤ 1000000000) : PCB Try.prog env0 34 [.imm (.sl 2 (l.map spv)), .clo 35 [.ptr 0 1 0]] [.box 1 [.imm (.int .i64 d)]] [.imm (.bool (l.any (inS d)))] [.box 1 [.imm (.int .i64 d)]] := by
 have hI := idx_in d l hl
 cases hq : l.any (inS d) with
 | true =>
   unfold Go.Proofs.Ytmgjpmjmondplaa.Pe.idxOf at hI
   rw [if_pos hq] at hI
   refine PCB.of_va (T := tb0) eqs_ok tb_ok rfl mixed Try.func34 rfl rfl rfl (Nat.le_of_ble_eq_true rfl) rfl ?_; intro Γ C WK LP fin h0 hk0 hW hC hB hR hLP hfin
   (try (conv => whnf)); (repeat ((first | refine qT ?_ | refine qF ?_ | refine qO ?_ | (with_reducible intro z hz); (first | (replace hz := hz (by omega); subst hz) | subst hz)); (try (conv => whnf))))
   refine CallB.mk ([.imm (.int .i64 (List.findIdx (inS d) l : Nat))]) ([.box 1 [.imm (.int .i64 d)]]) (hB _ _ _ _ _ (hI)) ?_
   (try (conv => whnf)); (repeat ((first | refine qT ?_ | refine qF ?_ | refine qO ?_ | (with_reducible intro z hz); (first | (replace hz := hz (by omega); subst hz) | subst hz)); (try (conv => whnf))))
   exact hfin _ (qSL 1 rfl rfl)
 | false =>
   unfold Go.Proofs.Ytmgjpmjmondplaa.Pe.idxOf at hI
   rw [hq, if_neg (by simp)] at hI
   refine PCB.of_va (T := tb0) eqs_ok tb_ok rfl mixed Try.func34 rfl rfl rfl (Nat.le_of_ble_eq_true rfl) rfl ?_; intro Γ C WK LP fin h0 hk0 hW hC hB hR hLP hfin
   (try (conv => whnf)); (repeat ((first | refine qT ?_ | refine qF ?_ | refine qO ?_ | (with_reducible intro z hz); (first | (replace hz := hz (by omega); subst hz) | subst hz)); (try (conv => whnf))))
   refine CallB.mk ([.imm (.int .i64 (-1))]) ([.box 1 [.imm (.int .i64 d)]]) (hB _ _ _ _ _ (hI)) ?_
   (try (conv => whnf)); (repeat ((first | refine qT ?_ | refine qF ?_ | refine qO ?_ | (with_reducible intro z hz); (first | (replace hz := hz (by omega); subst hz) | subst hz)); (try (conv => whnf))))
   exact hfin _ (qSL 1 rfl rfl)
theorem contains_pc (L : List Sp) (d : Int) (hl : L.length ≤ 1000000000) : PC Try.prog env0 24 [.sl 2 (L.map spv), .int .i64 d] [.bool (conB L d)] := by
 have hA := any_in d L hl
 rw [← memB_any] at hA
 unfold conB
 by_cases h0 : 0 ≤ d
 · by_cases h1 : d ≤ 1048576
   · rw [decide_eq_true ⟨h0, h1⟩, Bool.true_and]
     refine PC.of_va (T := tb0) eqs_ok tb_ok rfl mixed Try.func24 rfl rfl (Nat.le_of_ble_eq_true rfl) ?_; intro Γ C WK LP fin h0 hW hC hB hR hLP hfin
     (try (conv => whnf)); (repeat ((first | refine qT ?_ | refine qF ?_ | refine qO ?_ | (with_reducible intro z hz); (first | (replace hz := hz (by omega); subst hz) | subst hz)); (try (conv => whnf))))
     refine CallB.mk ([.imm (.bool (memB L d))]) ([.box 1 [.imm (.int .i64 d)]]) (hB _ _ _ _ _ (hA)) ?_
     (try (conv => whnf)); (repeat ((first | refine qT ?_ | refine qF ?_ | refine qO ?_ | (with_reducible intro z hz); (first | (replace hz := hz (by omega); subst hz) | subst hz)); (try (conv => whnf))))
     exact hfin _ (ILes.refl _)
   · rw [decide_eq_false (fun h => h1 h.2), Bool.false_and]
     refine PC.of_va (T := tb0) eqs_ok tb_ok rfl mixed Try.func24 rfl rfl (Nat.le_of_ble_eq_true rfl) ?_; intro Γ C WK LP fin h0 hW hC hB hR hLP hfin
     (try (conv => whnf)); (repeat ((first | refine qT ?_ | refine qF ?_ | refine qO ?_ | (with_reducible intro z hz); (first | (replace hz := hz (by omega); subst hz) | subst hz)); (try (conv => whnf))))
     exact hfin _ (ILes.refl _)
 · rw [decide_eq_false (fun h => h0 h.1), Bool.false_and]
   refine PC.of_va (T := tb0) eqs_ok tb_ok rfl mixed Try.func24 rfl rfl (Nat.le_of_ble_eq_true rfl) ?_; intro Γ C WK LP fin h0 hW hC hB hR hLP hfin
   (try (conv => whnf)); (repeat ((first | refine qT ?_ | refine qF ?_ | refine qO ?_ | (with_reducible intro z hz); (first | (replace hz := hz (by omega); subst hz) | subst hz)); (try (conv => whnf))))
   exact hfin _ (ILes.refl _)
def mz (k : Nat) : IV := ([.nil, .nil, .nil, .int .i64 0, .int .i64 0, .int .i64 0, .int .i64 0, .int .i64 0, .int .i64 0, .str ⟨#[]⟩, .nil, .nil, .nil, .nil, .nil, .str ⟨#[]⟩, .str ⟨#[]⟩] : List IV).getD k .nil
def ordE (kind act item day : Int) : En := ⟨0, 0, 0, ⟨kind, mz, ⟨0, 0, ⟨#[]⟩⟩, act, item, day, ⟨#[]⟩, .nil⟩⟩
def dclE (ev : Str) (day : Int) : En := ⟨0, 0, 0, ⟨10, mz, ⟨0, 0, ⟨#[]⟩⟩, 0, 0, day, ev, .nil⟩⟩
theorem evD_snoc (name : Str) (l : List En) (x : En) : evD name (l ++ [x]) = match evD name l with
   | some t => some t
   | none => if dq name x = true then some x.it.d else none := by
 unfold evD
 rw [List.find?_append]
 cases h : l.find? (dq name) with
 | some y => rfl
 | none =>
   cases hx : dq name x <;> simp [hx]
theorem stD_snoc (s : St) (l : List En) {x : En} (h : ¬ x.it.kind = 10) : stD s (l ++ [x]) = stD s l := by
 unfold stD
 rw [evD_snoc, show dq s.e x = false by unfold dq; rw [decide_eq_false h, Bool.false_and]]
 cases evD s.e l <;> rfl
theorem days_snoc (P : Int → Bool) (e : En) (l : List En) (x : En) : daysP P e (l ++ [x]) = stepD e (daysP P e l) x := by
 unfold daysP
 rw [List.foldl_append, List.foldl_cons, List.foldl_nil]
theorem force_in {a : St} {e : En} {l : List En} (h0 : 0 ≤ e.it.kind) (h6 : e.it.kind ≤ 6) : forceL a e l = canon (daysP (dayP (stD (effS a e.it.st) l)) e l) := by
 unfold forceL
 rw [if_pos ⟨h0, h6⟩]
theorem force_len (a : St) (e : En) (l : List En) : (forceL a e l).length ≤ 1 + l.length := by
 obtain ⟨P, h, hc⟩ := force_has a e l
 rw [h]
 exact hc.2
end Go.Proofs.Ytmgjpmjmondplaa.Pe
