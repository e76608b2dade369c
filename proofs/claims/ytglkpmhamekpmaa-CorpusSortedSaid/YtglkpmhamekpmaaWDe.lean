/-
  Corpus: the gazettes before a day's, by the program and by the reference.
-/
import Derived.Test.YtglkpmhamekpmaaWDd
namespace Go.Proofs.Ytglkpmhamekpmaa.Po
open Go Go.Pv Go.RowKit
set_option linter.unusedSimpArgs false
open Lab Lcs Go.Proofs.Ytglkpmhamekpmaa Go.Proofs.Ytglkpmhamekpmaa.Pu
set_option maxRecDepth 10000
set_option maxHeartbeats 32000000
def lateB (d : Int) (g : Gz) : Bool := decide (d < g.day)
def idxP {α : Type} (p : α → Bool) (l : List α) : Int := if l.any p then ((l.findIdx p : Nat) : Int) else -1
theorem findIdx_hit {α : Type} {p : α → Bool} {l : List α} {k : Nat} {x : α} (hx : l[k]? = some x) (h : p x = true) (hp : ∀ y ∈ l.take k, p y = false) : l.findIdx p = k := by
 obtain ⟨hk, he⟩ := List.getElem?_eq_some_iff.1 hx
 refine (List.findIdx_eq hk).2 ⟨by rw [he]; exact h, fun j hj => ?_⟩
 have : l[j] ∈ l.take k := by rw [List.mem_take_iff_getElem]; exact ⟨j, by omega, rfl⟩
 exact hp _ this
theorem idxP_hit {α : Type} {p : α → Bool} {l : List α} {k : Nat} {x : α} (hx : l[k]? = some x) (h : p x = true) (hp : ∀ y ∈ l.take k, p y = false) : idxP p l = k := by
 unfold idxP
 rw [if_pos (List.any_eq_true.2 ⟨x, List.mem_of_getElem? hx, h⟩), findIdx_hit hx h hp]
theorem idxP_none {α : Type} {p : α → Bool} {l : List α} (hp : ∀ y ∈ l, p y = false) : idxP p l = -1 := by
 unfold idxP
 rw [if_neg]
 intro h
 obtain ⟨x, hx, he⟩ := List.any_eq_true.1 h
 rw [hp x hx] at he
 cases he
theorem late_pcb (d : Int) (g : Gz) : PCB Try.prog env0 39 [.imm (gzv g), .ptr 0 1 0] [.box 1 [.imm (.int .i64 d)]] [.imm (.bool (lateB d g))] [.box 1 [.imm (.int .i64 d)]] := by
 unfold gzv lateB
 by_cases h1 : d < g.day
 · rw [decide_eq_true h1]
   refine PCB.of_va (T := tbr0) eqs_ok tbr_ok rfl mixed Try.func39 rfl rfl rfl (Nat.le_of_ble_eq_true rfl) rfl ?_; intro Γ C WK LP fin h0 hk0 hW hC hB hR hLP hfin
   (try (conv => whnf)); (repeat ((first | refine qT ?_ | refine qF ?_ | refine qO ?_ | (with_reducible intro z hz); (first | (replace hz := hz (by omega); subst hz) | subst hz)); (try (conv => whnf))))
   exact hfin _ (qSL 1 rfl rfl)
 · rw [decide_eq_false h1]
   refine PCB.of_va (T := tbr0) eqs_ok tbr_ok rfl mixed Try.func39 rfl rfl rfl (Nat.le_of_ble_eq_true rfl) rfl ?_; intro Γ C WK LP fin h0 hk0 hW hC hB hR hLP hfin
   (try (conv => whnf)); (repeat ((first | refine qT ?_ | refine qF ?_ | refine qO ?_ | (with_reducible intro z hz); (first | (replace hz := hz (by omega); subst hz) | subst hz)); (try (conv => whnf))))
   exact hfin _ (qSL 1 rfl rfl)
theorem idx_late (d : Int) (l : List Gz) (hl : l.length ≤ 1000000000) : PCB Try.prog env0 35 [.imm (.sl 4 (l.map gzv)), .clo 39 [.ptr 0 1 0]] [.box 1 [.imm (.int .i64 d)]] [.imm (.int .i64 (idxP (lateB d) l))] [.box 1 [.imm (.int .i64 d)]] := by
 have hml : (l.map gzv).length = l.length := List.length_map _
 refine PCB.of_va (T := tbr0) eqs_ok tbr_ok rfl mixed Try.func35 rfl rfl rfl (Nat.le_of_ble_eq_true rfl) rfl ?_; intro Γ C WK LP fin h0 hk0 hW hC hB hR hLP hfin
 (try (conv => whnf)); (repeat ((first | refine qT ?_ | refine qF ?_ | refine qO ?_ | (with_reducible intro z hz); (first | (replace hz := hz (by omega); subst hz) | subst hz)); (try (conv => whnf))))
 refine hLP _ _ _ Nat (fun k => ⟨[(0, .imm (.sl 4 (l.map gzv))), (1, .clo 39 [.ptr 0 1 0]), (7, .imm (.int .i64 (l.length : Nat))), (8, .imm (.int .i64 (k : Nat)))], [.box 1 [.imm (.int .i64 d)]]⟩) (fun k => k ≤ l.length ∧ ∀ x ∈ l.take k, lateB d x = false) (fun k => l.length - k) 0 ⟨Nat.zero_le _, by simp⟩ (qSL 1 rfl rfl (hE := by (repeat ((conv => whnf); first | exact trivial | refine And.intro (by first | exact WkOne.any | exact WkOne.eq (by with_reducible rfl) rfl | exact WkOne.eq (congrArg (fun z => PV.imm (IV.int IntKind.i64 z)) (by first | omega | (simp [hml]; done) | (simp [hml]; omega))) rfl | exact WkOne.eq (by first | (simp [hml]; done) | fail) rfl | exact WkOne.eq rfl rfl | exact WkOne.le rfl (ILe.nil _)) ?_)))) ?_
 rintro k ⟨hk, hp⟩
 have hho := Nat.lt_or_ge k l.length
 cases hho with
 | inl hlt =>
   obtain ⟨x, hx⟩ : ∃ x, l[k]? = some x := ⟨l[k], List.getElem?_eq_getElem hlt⟩
   have hI := late_pcb d x
   obtain ⟨b, hq⟩ : ∃ b, lateB d x = b := ⟨_, rfl⟩
   rw [hq] at hI
   unfold gzv at hI
   cases b
   · (try (conv => whnf)); (repeat ((first | refine qT ?_ | refine qF ?_ | refine qO ?_ | (with_reducible intro z hz); (first | (replace hz := hz (by omega); subst hz) | subst hz)); (try (conv => whnf))))
     refine Idx.mk k (gzv x) _ rfl (by simp [hx]) rfl ?_
     (try (conv => whnf)); (repeat ((first | refine qT ?_ | refine qF ?_ | refine qO ?_ | (with_reducible intro z hz); (first | (replace hz := hz (by omega); subst hz) | subst hz)); (try (conv => whnf))))
     refine CallB.mk ([.imm (.bool false)]) ([.box 1 [.imm (.int .i64 d)]]) (hB _ _ _ _ _ (hI)) ?_
     (try (conv => whnf)); (repeat ((first | refine qT ?_ | refine qF ?_ | refine qO ?_ | (with_reducible intro z hz); (first | (replace hz := hz (by omega); subst hz) | subst hz)); (try (conv => whnf))))
     exact ⟨k + 1, ⟨by omega, fun y hy => by
       rw [take_at hx, List.mem_append] at hy
       rcases hy with hy | hy
       · exact hp y hy
       · rw [List.mem_singleton.1 hy]; exact hq⟩, by dsimp only; omega, (qSL 1 rfl rfl)⟩
   · (try (conv => whnf)); (repeat ((first | refine qT ?_ | refine qF ?_ | refine qO ?_ | (with_reducible intro z hz); (first | (replace hz := hz (by omega); subst hz) | subst hz)); (try (conv => whnf))))
     refine Idx.mk k (gzv x) _ rfl (by simp [hx]) rfl ?_
     (try (conv => whnf)); (repeat ((first | refine qT ?_ | refine qF ?_ | refine qO ?_ | (with_reducible intro z hz); (first | (replace hz := hz (by omega); subst hz) | subst hz)); (try (conv => whnf))))
     refine CallB.mk ([.imm (.bool true)]) ([.box 1 [.imm (.int .i64 d)]]) (hB _ _ _ _ _ (hI)) ?_
     (try (conv => whnf)); (repeat ((first | refine qT ?_ | refine qF ?_ | refine qO ?_ | (with_reducible intro z hz); (first | (replace hz := hz (by omega); subst hz) | subst hz)); (try (conv => whnf))))
     rw [idxP_hit hx hq hp] at hfin
     exact hfin _ (qSL 1 rfl rfl)
 | inr hge =>
   (try (conv => whnf)); (repeat ((first | refine qT ?_ | refine qF ?_ | refine qO ?_ | (with_reducible intro z hz); (first | (replace hz := hz (by omega); subst hz) | subst hz)); (try (conv => whnf))))
   obtain rfl : k = l.length := by omega
   rw [List.take_length] at hp
   rw [idxP_none hp] at hfin
   exact hfin _ (qSL 1 rfl rfl)
def byN (d : Int) (l : List Gz) : Nat := l.findIdx (lateB d)
theorem publishedBy_pc (d : Int) (l : List Gz) (hl : l.length ≤ 1000000000) : PC Try.prog env0 19 [.int .i64 d, .sl 4 (l.map gzv)] [.int .i64 (byN d l : Nat)] := by
 have hml : (l.map gzv).length = l.length := List.length_map _
 have hI := idx_late d l hl
 unfold idxP at hI
 unfold byN
 cases hb : l.any (lateB d) with
 | true =>
   rw [hb, if_pos rfl] at hI
   generalize l.findIdx (lateB d) = z at *
   refine PC.of_va (T := tbr0) eqs_ok tbr_ok rfl mixed Try.func19 rfl rfl (Nat.le_of_ble_eq_true rfl) ?_; intro Γ C WK LP fin h0 hW hC hB hR hLP hfin
   (try (conv => whnf)); (repeat ((first | refine qT ?_ | refine qF ?_ | refine qO ?_ | (with_reducible intro z hz); (first | (replace hz := hz (by omega); subst hz) | subst hz)); (try (conv => whnf))))
   refine CallB.mk ([.imm (.int .i64 (z : Nat))]) ([.box 1 [.imm (.int .i64 d)]]) (hB _ _ _ _ _ (hI)) ?_
   (try (conv => whnf)); (repeat ((first | refine qT ?_ | refine qF ?_ | refine qO ?_ | (with_reducible intro z hz); (first | (replace hz := hz (by omega); subst hz) | subst hz)); (try (conv => whnf))))
   exact hfin _ (ILes.refl _)
 | false =>
   rw [hb, if_neg (by decide)] at hI
   have hz : l.findIdx (lateB d) = l.length := List.findIdx_eq_length_of_false fun x hx => by
     have := List.any_eq_false.1 hb x hx
     simpa using this
   rw [hz]
   refine PC.of_va (T := tbr0) eqs_ok tbr_ok rfl mixed Try.func19 rfl rfl (Nat.le_of_ble_eq_true rfl) ?_; intro Γ C WK LP fin h0 hW hC hB hR hLP hfin
   (try (conv => whnf)); (repeat ((first | refine qT ?_ | refine qF ?_ | refine qO ?_ | (with_reducible intro z hz); (first | (replace hz := hz (by omega); subst hz) | subst hz)); (try (conv => whnf))))
   refine CallB.mk ([.imm (.int .i64 (-1))]) ([.box 1 [.imm (.int .i64 d)]]) (hB _ _ _ _ _ (hI)) ?_
   (try (conv => whnf)); (repeat ((first | refine qT ?_ | refine qF ?_ | refine qO ?_ | (with_reducible intro z hz); (first | (replace hz := hz (by omega); subst hz) | subst hz)); (try (conv => whnf))))
   exact hfin _ (by rw [hml]; exact ILes.refl _)
theorem by_pc (d : Int) (l : List Gz) (hl : l.length ≤ 1000000000) : PC Try.prog env0 20 [.int .i64 d, .sl 4 (l.map gzv)] [.int .i64 (byN d l : Nat)] := by
 have hml : (l.map gzv).length = l.length := List.length_map _
 refine PC.of_va (T := tbr0) eqs_ok tbr_ok rfl mixed Try.func20 rfl rfl (Nat.le_of_ble_eq_true rfl) ?_; intro Γ C WK LP fin h0 hW hC hB hR hLP hfin
 (try (conv => whnf)); (repeat ((first | refine qT ?_ | refine qF ?_ | refine qO ?_ | (with_reducible intro z hz); (first | (replace hz := hz (by omega); subst hz) | subst hz)); (try (conv => whnf))))
 refine hLP _ _ _ Nat (fun k => ⟨[(0, .imm (.int .i64 d)), (1, .imm (.sl 4 (l.map gzv))), (5, .imm (.int .i64 (k : Nat)))], []⟩) (fun k => k ≤ l.length ∧ ∀ x ∈ l.take k, lateB d x = false) (fun k => l.length - k) 0 ⟨Nat.zero_le _, by simp⟩ (qSL 0 rfl rfl) ?_
 rintro k ⟨hk, hp⟩
 have hho := Nat.lt_or_ge k l.length
 cases hho with
 | inl hlt =>
   obtain ⟨x, hx⟩ : ∃ x, l[k]? = some x := ⟨l[k], List.getElem?_eq_getElem hlt⟩
   by_cases h1 : d < x.day
   · have hf : byN d l = k := findIdx_hit hx (decide_eq_true h1) hp
     rw [hf] at hfin
     (try (conv => whnf)); (repeat ((first | refine qT ?_ | refine qF ?_ | refine qO ?_ | (with_reducible intro z hz); (first | (replace hz := hz (by omega); subst hz) | subst hz)); (try (conv => whnf))))
     refine Idx.mk k (gzv x) _ rfl (by simp [hx]) rfl ?_
     (try (conv => whnf)); (repeat ((first | refine qT ?_ | refine qF ?_ | refine qO ?_ | (with_reducible intro z hz); (first | (replace hz := hz (by omega); subst hz) | subst hz)); (try (conv => whnf))))
     exact hfin _ (ILes.refl _)
   · (try (conv => whnf)); (repeat ((first | refine qT ?_ | refine qF ?_ | refine qO ?_ | (with_reducible intro z hz); (first | (replace hz := hz (by omega); subst hz) | subst hz)); (try (conv => whnf))))
     refine Idx.mk k (gzv x) _ rfl (by simp [hx]) rfl ?_
     (try (conv => whnf)); (repeat ((first | refine qT ?_ | refine qF ?_ | refine qO ?_ | (with_reducible intro z hz); (first | (replace hz := hz (by omega); subst hz) | subst hz)); (try (conv => whnf))))
     exact ⟨k + 1, ⟨by omega, fun y hy => by
       rw [take_at hx, List.mem_append] at hy
       rcases hy with hy | hy
       · exact hp y hy
       · rw [List.mem_singleton.1 hy]; exact decide_eq_false h1⟩, by dsimp only; omega, (qSL 0 rfl rfl)⟩
 | inr hge =>
   obtain rfl : k = l.length := by omega
   rw [List.take_length] at hp
   have hf : byN d l = l.length := List.findIdx_eq_length_of_false hp
   rw [hf] at hfin
   (try (conv => whnf)); (repeat ((first | refine qT ?_ | refine qF ?_ | refine qO ?_ | (with_reducible intro z hz); (first | (replace hz := hz (by omega); subst hz) | subst hz)); (try (conv => whnf))))
   exact hfin _ (ILes.refl _)
end Go.Proofs.Ytglkpmhamekpmaa.Po
