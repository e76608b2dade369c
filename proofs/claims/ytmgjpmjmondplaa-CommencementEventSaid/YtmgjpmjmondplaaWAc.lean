/-
  The day of an event, effective starts, few items; by the program and by the reference.
-/
import Derived.Test.YtmgjpmjmondplaaWAb
namespace Go.Proofs.Ytmgjpmjmondplaa.Pe
open Go Go.Pv Go.RowKit
set_option linter.unusedSimpArgs false
set_option maxRecDepth 10000
set_option maxHeartbeats 16000000
def idxOf {α : Type} (p : α → Bool) (l : List α) : Int := if l.any p then ((l.findIdx p : Nat) : Int) else -1
theorem idxOf_hit {α : Type} {p : α → Bool} {l : List α} {k : Nat} {x : α} (hx : l[k]? = some x) (h : p x = true) (hp : ∀ y ∈ l.take k, p y = false) : idxOf p l = k := by
 unfold idxOf
 rw [if_pos (List.any_eq_true.2 ⟨x, List.mem_of_getElem? hx, h⟩)]
 obtain ⟨hk, he⟩ := List.getElem?_eq_some_iff.1 hx
 congr 1
 refine (List.findIdx_eq hk).2 ⟨by rw [he]; exact h, fun j hj => ?_⟩
 have : l[j] ∈ l.take k := by rw [List.mem_take_iff_getElem]; exact ⟨j, by omega, rfl⟩
 exact hp _ this
theorem idxOf_none {α : Type} {p : α → Bool} {l : List α} (hp : ∀ y ∈ l, p y = false) : idxOf p l = -1 := by
 unfold idxOf
 rw [if_neg]
 intro h
 obtain ⟨x, hx, he⟩ := List.any_eq_true.1 h
 rw [hp x hx] at he
 cases he
theorem first_of {α : Type} (p : α → Bool) : ∀ l : List α, (∀ y ∈ l, p y = false) ∧ l.find? p = none ∨ ∃ k x, l[k]? = some x ∧ p x = true ∧ (∀ y ∈ l.take k, p y = false) ∧ l.find? p = some x
 | [] => Or.inl ⟨(fun _ h => by cases h), rfl⟩
 | a :: l => by
   cases ha : p a with
   | true => exact Or.inr ⟨0, a, rfl, ha, (fun _ h => by simp at h), by simp [ha]⟩
   | false =>
     rcases first_of p l with ⟨h1, h2⟩ | ⟨k, x, h1, h2, h3, h4⟩
     · refine Or.inl ⟨fun y hy => ?_, by rw [List.find?_cons, ha]; exact h2⟩
       rcases List.mem_cons.1 hy with rfl | hy
       · exact ha
       · exact h1 y hy
     · refine Or.inr ⟨k + 1, x, by simpa using h1, h2, fun y hy => ?_, by rw [List.find?_cons, ha]; exact h4⟩
       rw [List.take_succ_cons] at hy
       rcases List.mem_cons.1 hy with rfl | hy
       · exact ha
       · exact h3 y hy
def dq (name : Str) (e : En) : Bool := decide (e.it.kind = 10) && decide (e.it.ev = name)
def evD (name : Str) (l : List En) : Option Int := (l.find? (dq name)).map fun e => e.it.d
theorem evc_pcb (name : Str) (e : En) : PCB Try.prog env0 28 [.imm (env1 e), .ptr 0 1 0] [.box 1 [.imm (.str name)]] [.imm (.bool (dq name e))] [.box 1 [.imm (.str name)]] := by
 unfold env1 dq
 by_cases h1 : e.it.kind = 10
 · rw [decide_eq_true h1, Bool.true_and]
   by_cases h2 : e.it.ev = name
   · rw [decide_eq_true h2]
     refine PCB.of_va (T := tb0) eqs_ok tb_ok rfl mixed Try.func28 rfl rfl rfl (Nat.le_of_ble_eq_true rfl) rfl ?_; intro Γ C WK LP fin h0 hk0 hW hC hB hR hLP hfin
     (try (conv => whnf)); (repeat ((first | refine qT ?_ | refine qF ?_ | refine qO ?_ | (with_reducible intro z hz); (first | (replace hz := hz (by omega); subst hz) | subst hz)); (try (conv => whnf))))
     exact hfin _ (qSL 1 rfl rfl)
   · rw [decide_eq_false h2]
     refine PCB.of_va (T := tb0) eqs_ok tb_ok rfl mixed Try.func28 rfl rfl rfl (Nat.le_of_ble_eq_true rfl) rfl ?_; intro Γ C WK LP fin h0 hk0 hW hC hB hR hLP hfin
     (try (conv => whnf)); (repeat ((first | refine qT ?_ | refine qF ?_ | refine qO ?_ | (with_reducible intro z hz); (first | (replace hz := hz (by omega); subst hz) | subst hz)); (try (conv => whnf))))
     exact hfin _ (qSL 1 rfl rfl)
 · rw [decide_eq_false h1, Bool.false_and]
   refine PCB.of_va (T := tb0) eqs_ok tb_ok rfl mixed Try.func28 rfl rfl rfl (Nat.le_of_ble_eq_true rfl) rfl ?_; intro Γ C WK LP fin h0 hk0 hW hC hB hR hLP hfin
   (try (conv => whnf)); (repeat ((first | refine qT ?_ | refine qF ?_ | refine qO ?_ | (with_reducible intro z hz); (first | (replace hz := hz (by omega); subst hz) | subst hz)); (try (conv => whnf))))
   exact hfin _ (qSL 1 rfl rfl)
theorem idx_ev (name : Str) (l : List En) (hl : l.length ≤ 1000000000) : PCB Try.prog env0 27 [.imm (.sl 28 (l.map env1)), .clo 28 [.ptr 0 1 0]] [.box 1 [.imm (.str name)]] [.imm (.int .i64 (idxOf (dq name) l))] [.box 1 [.imm (.str name)]] := by
 have hml : (l.map env1).length = l.length := List.length_map _
 refine PCB.of_va (T := tb0) eqs_ok tb_ok rfl mixed Try.func27 rfl rfl rfl (Nat.le_of_ble_eq_true rfl) rfl ?_; intro Γ C WK LP fin h0 hk0 hW hC hB hR hLP hfin
 (try (conv => whnf)); (repeat ((first | refine qT ?_ | refine qF ?_ | refine qO ?_ | (with_reducible intro z hz); (first | (replace hz := hz (by omega); subst hz) | subst hz)); (try (conv => whnf))))
 refine hLP _ _ _ Nat (fun k => ⟨[(0, .imm (.sl 28 (l.map env1))), (1, .clo 28 [.ptr 0 1 0]), (7, .imm (.int .i64 (l.length : Nat))), (8, .imm (.int .i64 (k : Nat)))], [.box 1 [.imm (.str name)]]⟩) (fun k => k ≤ l.length ∧ ∀ x ∈ l.take k, dq name x = false) (fun k => l.length - k) 0 ⟨Nat.zero_le _, by simp⟩ (qSL 1 rfl rfl (hE := by (repeat ((conv => whnf); first | exact trivial | refine And.intro (by first | exact WkOne.any | exact WkOne.eq (by with_reducible rfl) rfl | exact WkOne.eq (congrArg (fun z => PV.imm (IV.int IntKind.i64 z)) (by first | omega | (simp [hml]; done) | (simp [hml]; omega))) rfl | exact WkOne.eq (by first | (simp [hml]; done) | fail) rfl | exact WkOne.eq rfl rfl | exact WkOne.le rfl (ILe.nil _)) ?_)))) ?_
 rintro k ⟨hk, hp⟩
 have hho := Nat.lt_or_ge k l.length
 cases hho with
 | inl hlt =>
   obtain ⟨x, hx⟩ : ∃ x, l[k]? = some x := ⟨l[k], List.getElem?_eq_getElem hlt⟩
   have hI := evc_pcb name x
   obtain ⟨b, hq⟩ : ∃ b, dq name x = b := ⟨_, rfl⟩
   rw [hq] at hI
   unfold env1 at hI
   cases b
   · (try (conv => whnf)); (repeat ((first | refine qT ?_ | refine qF ?_ | refine qO ?_ | (with_reducible intro z hz); (first | (replace hz := hz (by omega); subst hz) | subst hz)); (try (conv => whnf))))
     refine Idx.mk k (env1 x) _ rfl (by simp [hx]) rfl ?_
     (try (conv => whnf)); (repeat ((first | refine qT ?_ | refine qF ?_ | refine qO ?_ | (with_reducible intro z hz); (first | (replace hz := hz (by omega); subst hz) | subst hz)); (try (conv => whnf))))
     refine CallB.mk ([.imm (.bool false)]) ([.box 1 [.imm (.str name)]]) (hB _ _ _ _ _ (hI)) ?_
     (try (conv => whnf)); (repeat ((first | refine qT ?_ | refine qF ?_ | refine qO ?_ | (with_reducible intro z hz); (first | (replace hz := hz (by omega); subst hz) | subst hz)); (try (conv => whnf))))
     exact ⟨k + 1, ⟨by omega, fun y hy => by
       rw [take_at hx, List.mem_append] at hy
       rcases hy with hy | hy
       · exact hp y hy
       · rw [List.mem_singleton.1 hy]; exact hq⟩, by dsimp only; omega, (qSL 1 rfl rfl)⟩
   · (try (conv => whnf)); (repeat ((first | refine qT ?_ | refine qF ?_ | refine qO ?_ | (with_reducible intro z hz); (first | (replace hz := hz (by omega); subst hz) | subst hz)); (try (conv => whnf))))
     refine Idx.mk k (env1 x) _ rfl (by simp [hx]) rfl ?_
     (try (conv => whnf)); (repeat ((first | refine qT ?_ | refine qF ?_ | refine qO ?_ | (with_reducible intro z hz); (first | (replace hz := hz (by omega); subst hz) | subst hz)); (try (conv => whnf))))
     refine CallB.mk ([.imm (.bool true)]) ([.box 1 [.imm (.str name)]]) (hB _ _ _ _ _ (hI)) ?_
     (try (conv => whnf)); (repeat ((first | refine qT ?_ | refine qF ?_ | refine qO ?_ | (with_reducible intro z hz); (first | (replace hz := hz (by omega); subst hz) | subst hz)); (try (conv => whnf))))
     rw [idxOf_hit hx hq hp] at hfin
     exact hfin _ (qSL 1 rfl rfl)
 | inr hge =>
   (try (conv => whnf)); (repeat ((first | refine qT ?_ | refine qF ?_ | refine qO ?_ | (with_reducible intro z hz); (first | (replace hz := hz (by omega); subst hz) | subst hz)); (try (conv => whnf))))
   obtain rfl : k = l.length := by omega
   rw [List.take_length] at hp
   rw [idxOf_none hp] at hfin
   exact hfin _ (qSL 1 rfl rfl)
theorem eventday_pc (name : Str) (l : List En) (hl : l.length ≤ 1000000000) : PC Try.prog env0 12 [.str name, .sl 28 (l.map env1)] [.int .i64 ((evD name l).getD 0), .bool (evD name l).isSome] := by
 have hml : (l.map env1).length = l.length := List.length_map _
 have hI := idx_ev name l hl
 unfold evD
 rcases first_of (dq name) l with ⟨h1, h2⟩ | ⟨k, x, h1, h2, h3, h4⟩
 · rw [idxOf_none h1] at hI
   rw [h2]
   refine PC.of_va (T := tb0) eqs_ok tb_ok rfl mixed Try.func12 rfl rfl (Nat.le_of_ble_eq_true rfl) ?_; intro Γ C WK LP fin h0 hW hC hB hR hLP hfin
   (try (conv => whnf)); (repeat ((first | refine qT ?_ | refine qF ?_ | refine qO ?_ | (with_reducible intro z hz); (first | (replace hz := hz (by omega); subst hz) | subst hz)); (try (conv => whnf))))
   refine CallB.mk ([.imm (.int .i64 (-1))]) ([.box 1 [.imm (.str name)]]) (hB _ _ _ _ _ (hI)) ?_
   (try (conv => whnf)); (repeat ((first | refine qT ?_ | refine qF ?_ | refine qO ?_ | (with_reducible intro z hz); (first | (replace hz := hz (by omega); subst hz) | subst hz)); (try (conv => whnf))))
   exact hfin _ (ILes.refl _)
 · rw [idxOf_hit h1 h2 h3] at hI
   have hk := (List.getElem?_eq_some_iff.1 h1).1
   rw [h4]
   refine PC.of_va (T := tb0) eqs_ok tb_ok rfl mixed Try.func12 rfl rfl (Nat.le_of_ble_eq_true rfl) ?_; intro Γ C WK LP fin h0 hW hC hB hR hLP hfin
   (try (conv => whnf)); (repeat ((first | refine qT ?_ | refine qF ?_ | refine qO ?_ | (with_reducible intro z hz); (first | (replace hz := hz (by omega); subst hz) | subst hz)); (try (conv => whnf))))
   refine CallB.mk ([.imm (.int .i64 (k : Nat))]) ([.box 1 [.imm (.str name)]]) (hB _ _ _ _ _ (hI)) ?_
   (try (conv => whnf)); (repeat ((first | refine qT ?_ | refine qF ?_ | refine qO ?_ | (with_reducible intro z hz); (first | (replace hz := hz (by omega); subst hz) | subst hz)); (try (conv => whnf))))
   refine Idx.mk k (env1 x) _ rfl (by simp [h1]) rfl ?_
   (try (conv => whnf)); (repeat ((first | refine qT ?_ | refine qF ?_ | refine qO ?_ | (with_reducible intro z hz); (first | (replace hz := hz (by omega); subst hz) | subst hz)); (try (conv => whnf))))
   exact hfin _ (ILes.refl _)
def effS (a x : St) : St := if x.k = 0 then a else x
theorem effective_pc (a x : St) : PC Try.prog env0 14 [stv a, stv x] [stv (effS a x)] := by
 unfold effS
 split <;> unfold stv
 · refine PC.of_va (T := tb0) eqs_ok tb_ok rfl mixed Try.func14 rfl rfl (Nat.le_of_ble_eq_true rfl) ?_; intro Γ C WK LP fin h0 hW hC hB hR hLP hfin
   (try (conv => whnf)); (repeat ((first | refine qT ?_ | refine qF ?_ | refine qO ?_ | (with_reducible intro z hz); (first | (replace hz := hz (by omega); subst hz) | subst hz)); (try (conv => whnf))))
   exact hfin _ (ILes.refl _)
 · refine PC.of_va (T := tb0) eqs_ok tb_ok rfl mixed Try.func14 rfl rfl (Nat.le_of_ble_eq_true rfl) ?_; intro Γ C WK LP fin h0 hW hC hB hR hLP hfin
   (try (conv => whnf)); (repeat ((first | refine qT ?_ | refine qF ?_ | refine qO ?_ | (with_reducible intro z hz); (first | (replace hz := hz (by omega); subst hz) | subst hz)); (try (conv => whnf))))
   exact hfin _ (ILes.refl _)
def few1 (e : En) : Bool := decide (e.it.ev.size ≤ 100) && decide (e.it.st.e.size ≤ 100)
def fewE (l : List En) : Bool := l.all few1 && decide (l.length ≤ 40)
theorem few_pc (l : List En) (hl : l.length ≤ 9223372036854775807) (hf : ∀ x ∈ l, x.it.ev.size ≤ 9223372036854775807 ∧ x.it.st.e.size ≤ 9223372036854775807) : PC Try.prog env0 11 [.sl 28 (l.map env1)] [.bool (fewE l)] := by
 have hml : (l.map env1).length = l.length := List.length_map _
 refine PC.of_va (T := tb0) eqs_ok tb_ok rfl mixed Try.func11 rfl rfl (Nat.le_of_ble_eq_true rfl) ?_; intro Γ C WK LP fin h0 hW hC hB hR hLP hfin
 (try (conv => whnf)); (repeat ((first | refine qT ?_ | refine qF ?_ | refine qO ?_ | (with_reducible intro z hz); (first | (replace hz := hz (by omega); subst hz) | subst hz)); (try (conv => whnf))))
 refine hLP _ _ _ Nat (fun k => ⟨[(0, .imm (.sl 28 (l.map env1))), (3, .imm (.int .i64 (k : Nat)))], []⟩) (fun k => k ≤ l.length ∧ (l.take k).all few1 = true) (fun k => l.length - k) 0 ⟨Nat.zero_le _, by simp⟩ (qSL 0 rfl rfl) ?_
 rintro k ⟨hk, hp⟩
 have hho := Nat.lt_or_ge k l.length
 cases hho with
 | inl hlt =>
   obtain ⟨x, hx⟩ : ∃ x, l[k]? = some x := ⟨l[k], List.getElem?_eq_getElem hlt⟩
   obtain ⟨hf1, hf2⟩ := hf x (List.mem_of_getElem? hx)
   have bad : few1 x = false → fewE l = false := fun h => by
     unfold fewE
     have : l.all few1 = false := by
       cases hq : l.all few1 with
       | false => rfl
       | true => rw [List.all_eq_true.1 hq x (List.mem_of_getElem? hx)] at h; cases h
     rw [this]; rfl
   by_cases h1 : x.it.ev.size ≤ 100
   · by_cases h2 : x.it.st.e.size ≤ 100
     · (try (conv => whnf)); (repeat ((first | refine qT ?_ | refine qF ?_ | refine qO ?_ | (with_reducible intro z hz); (first | (replace hz := hz (by omega); subst hz) | subst hz)); (try (conv => whnf))))
       refine Idx.mk k (env1 x) _ rfl (by simp [hx]) rfl ?_
       (try (conv => whnf)); (repeat ((first | refine qT ?_ | refine qF ?_ | refine qO ?_ | (with_reducible intro z hz); (first | (replace hz := hz (by omega); subst hz) | subst hz)); (try (conv => whnf))))
       refine Idx.mk k (env1 x) _ rfl (by simp [hx]) rfl ?_
       (try (conv => whnf)); (repeat ((first | refine qT ?_ | refine qF ?_ | refine qO ?_ | (with_reducible intro z hz); (first | (replace hz := hz (by omega); subst hz) | subst hz)); (try (conv => whnf))))
       exact ⟨k + 1, ⟨by omega, by rw [take_at hx, List.all_append, hp]; simp [few1, h1, h2]⟩, by dsimp only; omega, (qSL 0 rfl rfl)⟩
     · (try (conv => whnf)); (repeat ((first | refine qT ?_ | refine qF ?_ | refine qO ?_ | (with_reducible intro z hz); (first | (replace hz := hz (by omega); subst hz) | subst hz)); (try (conv => whnf))))
       refine Idx.mk k (env1 x) _ rfl (by simp [hx]) rfl ?_
       (try (conv => whnf)); (repeat ((first | refine qT ?_ | refine qF ?_ | refine qO ?_ | (with_reducible intro z hz); (first | (replace hz := hz (by omega); subst hz) | subst hz)); (try (conv => whnf))))
       refine Idx.mk k (env1 x) _ rfl (by simp [hx]) rfl ?_
       (try (conv => whnf)); (repeat ((first | refine qT ?_ | refine qF ?_ | refine qO ?_ | (with_reducible intro z hz); (first | (replace hz := hz (by omega); subst hz) | subst hz)); (try (conv => whnf))))
       rw [bad (by unfold few1; rw [decide_eq_false h2, Bool.and_false])] at hfin
       exact hfin _ (ILes.refl _)
   · (try (conv => whnf)); (repeat ((first | refine qT ?_ | refine qF ?_ | refine qO ?_ | (with_reducible intro z hz); (first | (replace hz := hz (by omega); subst hz) | subst hz)); (try (conv => whnf))))
     refine Idx.mk k (env1 x) _ rfl (by simp [hx]) rfl ?_
     (try (conv => whnf)); (repeat ((first | refine qT ?_ | refine qF ?_ | refine qO ?_ | (with_reducible intro z hz); (first | (replace hz := hz (by omega); subst hz) | subst hz)); (try (conv => whnf))))
     rw [bad (by unfold few1; rw [decide_eq_false h1, Bool.false_and])] at hfin
     exact hfin _ (ILes.refl _)
 | inr hge =>
   obtain rfl : k = l.length := by omega
   rw [List.take_length] at hp
   unfold fewE at hfin
   rw [hp, Bool.true_and] at hfin
   by_cases h40 : l.length ≤ 40
   · rw [decide_eq_true h40] at hfin
     (try (conv => whnf)); (repeat ((first | refine qT ?_ | refine qF ?_ | refine qO ?_ | (with_reducible intro z hz); (first | (replace hz := hz (by omega); subst hz) | subst hz)); (try (conv => whnf))))
     exact hfin _ (ILes.refl _)
   · rw [decide_eq_false h40] at hfin
     (try (conv => whnf)); (repeat ((first | refine qT ?_ | refine qF ?_ | refine qO ?_ | (with_reducible intro z hz); (first | (replace hz := hz (by omega); subst hz) | subst hz)); (try (conv => whnf))))
     exact hfin _ (ILes.refl _)
end Go.Proofs.Ytmgjpmjmondplaa.Pe
