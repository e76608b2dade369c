/-
  Corpus: the reference's acts of all gazettes, the first of a number, which of two comes first.
-/
import Derived.Test.YtglkpmhamekpmaaWCm
namespace Go.Proofs.Ytglkpmhamekpmaa.Po
open Go Go.Pv Go.RowKit
set_option linter.unusedSimpArgs false
open Lab Lcs Go.Proofs.Ytglkpmhamekpmaa Go.Proofs.Ytglkpmhamekpmaa.Pu
set_option maxRecDepth 10000
set_option maxHeartbeats 32000000
def allA (l : List Gz) : List Ac := l.flatMap Gz.acts
theorem allA_take {l : List Gz} {k : Nat} {g : Gz} (h : l[k]? = some g) : allA (l.take (k + 1)) = allA (l.take k) ++ g.acts := by
 unfold allA
 rw [take_at h, List.flatMap_append]; simp
theorem allA_len (l : List Gz) (h : ∀ g ∈ l, g.acts.length ≤ 1000) : (allA l).length ≤ l.length * 1000 := by
 unfold allA
 induction l with
 | nil => simp
 | cons g l ih =>
   rw [List.flatMap_cons, List.length_append, List.length_cons, Nat.succ_mul]
   have := h g List.mem_cons_self
   have := ih fun x hx => h x (List.mem_cons_of_mem _ hx)
   omega
theorem all_pc (l : List Gz) (hl : l.length ≤ 1000) (hg : ∀ g ∈ l, g.acts.length ≤ 1000) : PC Try.prog env0 55 [.sl 4 (l.map gzv)] [.sl 7 ((allA l).map acv)] := by
 have hml : (l.map gzv).length = l.length := List.length_map _
 refine PC.of_va (T := tb0) eqs_ok tb_ok rfl mixed Try.func55 rfl rfl (Nat.le_of_ble_eq_true rfl) ?_; intro Γ C WK LP fin h0 hW hC hB hR hLP hfin
 (try (conv => whnf)); (repeat ((first | refine qT ?_ | refine qF ?_ | refine qO ?_ | (with_reducible intro z hz); (first | (replace hz := hz (by omega); subst hz) | subst hz)); (try (conv => whnf))))
 refine hLP _ _ _ Nat (fun k => ⟨[(0, .imm (.sl 4 (l.map gzv))), (3, .row 0 1), (4, .imm (.int .i64 (k : Nat)))], [.row 57 7 1 (((allA (l.take k)).map acv).map .imm)]⟩) (fun k => k ≤ l.length) (fun k => l.length - k) 0 (Nat.zero_le _) ((WeakA.row 0 ((((allA (l.take 0)).map acv).map .imm)) rfl (by rfl)).trans (qSL 1 rfl rfl)) ?_
 intro k hk
 have hho := Nat.lt_or_ge k l.length
 cases hho with
 | inl hlt =>
   obtain ⟨g, hx⟩ : ∃ g, l[k]? = some g := ⟨l[k], List.getElem?_eq_getElem hlt⟩
   have hst := allA_take hx
   have hln := allA_len (l.take k) fun x hx => hg x (List.take_subset _ _ hx)
   rw [List.length_take] at hln
   have hga := hg g (List.mem_of_getElem? hx)
   generalize allA (l.take k) = R at *
   have hrl : ((R.map acv).map PV.imm).length = R.length := by simp
   have hgl : (g.acts.map acv).length = g.acts.length := by simp
   (try (conv => whnf)); (repeat ((first | refine qT ?_ | refine qF ?_ | refine qO ?_ | (with_reducible intro z hz); (first | (replace hz := hz (by omega); subst hz) | subst hz)); (try (conv => whnf))))
   refine Idx.mk k (gzv g) _ rfl (by simp [hx]) rfl ?_
   (try (conv => whnf)); (repeat ((first | refine qT ?_ | refine qF ?_ | refine qO ?_ | (with_reducible intro z hz); (first | (replace hz := hz (by omega); subst hz) | subst hz)); (try (conv => whnf))))
   exact ⟨k + 1, by omega, by dsimp only; omega, by
     dsimp only []
     rw [hst]
     exact (WeakA.row 0 ((((R ++ g.acts).map acv).map .imm)) rfl (by simp)).trans ((WeakA.renew 0 1 rfl (by first | omega | (intro _; rw [hk0 _ _ rfl]; exact Nat.le_of_ble_eq_true rfl)) (by repeat (first | exact trivial | refine And.intro (rgL_imms _ _ _ _) ?_ | refine And.intro rfl ?_))).trans (qSL 1 rfl rfl))⟩
 | inr hge =>
   obtain rfl : k = l.length := by omega
   rw [List.take_length]
   (try (conv => whnf)); (repeat ((first | refine qT ?_ | refine qF ?_ | refine qO ?_ | (with_reducible intro z hz); (first | (replace hz := hz (by omega); subst hz) | subst hz)); (try (conv => whnf))))
   refine Imms.mk ((allA l).map acv) rfl ?_
   (try (conv => whnf)); (repeat ((first | refine qT ?_ | refine qF ?_ | refine qO ?_ | (with_reducible intro z hz); (first | (replace hz := hz (by omega); subst hz) | subst hz)); (try (conv => whnf))))
   exact hfin _ (ILes.refl _)
def fstI (row : List Ac) (n : Int) : Int := match row.findIdx? (fun a => decide (a.num = n)) with
 | some i => (i : Nat)
 | none => -1
theorem fst_pc (row : List Ac) (n : Int) (hl : row.length ≤ 1000000) : PC Try.prog env0 56 [.sl 7 (row.map acv), .int .i64 n] [.int .i64 (fstI row n)] := by
 have hml : (row.map acv).length = row.length := List.length_map _
 refine PC.of_va (T := tb0) eqs_ok tb_ok rfl mixed Try.func56 rfl rfl (Nat.le_of_ble_eq_true rfl) ?_; intro Γ C WK LP fin h0 hW hC hB hR hLP hfin
 (try (conv => whnf)); (repeat ((first | refine qT ?_ | refine qF ?_ | refine qO ?_ | (with_reducible intro z hz); (first | (replace hz := hz (by omega); subst hz) | subst hz)); (try (conv => whnf))))
 refine hLP _ _ _ Nat (fun k => ⟨[(0, .imm (.sl 7 (row.map acv))), (1, .imm (.int .i64 n)), (5, .imm (.int .i64 (k : Nat)))], []⟩) (fun k => k ≤ row.length ∧ ∀ a ∈ row.take k, a.num ≠ n) (fun k => row.length - k) 0 ⟨Nat.zero_le _, by simp⟩ (qSL 0 rfl rfl) ?_
 rintro k ⟨hk, hno⟩
 have hho := Nat.lt_or_ge k row.length
 cases hho with
 | inl hlt =>
   obtain ⟨a, ha⟩ : ∃ a, row[k]? = some a := ⟨row[k], List.getElem?_eq_getElem hlt⟩
   by_cases hn : a.num = n
   · have hf : fstI row n = k := by
       unfold fstI
       have : row.findIdx? (fun a => decide (a.num = n)) = some k := by
         rw [List.findIdx?_eq_some_iff_getElem]
         refine ⟨hlt, ?_, fun j hj => ?_⟩
         · rw [(List.getElem?_eq_some_iff.1 ha).2]; simpa using hn
         · have := hno row[j] (List.mem_take_iff_getElem.2 ⟨j, by omega, rfl⟩)
           simpa using this
       rw [this]
     rw [hf] at hfin
     (try (conv => whnf)); (repeat ((first | refine qT ?_ | refine qF ?_ | refine qO ?_ | (with_reducible intro z hz); (first | (replace hz := hz (by omega); subst hz) | subst hz)); (try (conv => whnf))))
     refine Idx.mk k (acv a) _ rfl (by simp [ha]) rfl ?_
     (try (conv => whnf)); (repeat ((first | refine qT ?_ | refine qF ?_ | refine qO ?_ | (with_reducible intro z hz); (first | (replace hz := hz (by omega); subst hz) | subst hz)); (try (conv => whnf))))
     exact hfin _ (ILes.refl _)
   · (try (conv => whnf)); (repeat ((first | refine qT ?_ | refine qF ?_ | refine qO ?_ | (with_reducible intro z hz); (first | (replace hz := hz (by omega); subst hz) | subst hz)); (try (conv => whnf))))
     refine Idx.mk k (acv a) _ rfl (by simp [ha]) rfl ?_
     (try (conv => whnf)); (repeat ((first | refine qT ?_ | refine qF ?_ | refine qO ?_ | (with_reducible intro z hz); (first | (replace hz := hz (by omega); subst hz) | subst hz)); (try (conv => whnf))))
     exact ⟨k + 1, ⟨by omega, fun b hb => by
       rw [take_at ha] at hb
       rcases List.mem_append.1 hb with hb | hb
       · exact hno b hb
       · obtain rfl := List.mem_singleton.1 hb; exact hn⟩, by dsimp only; omega, (qSL 0 rfl rfl)⟩
 | inr hge =>
   obtain rfl : k = row.length := by omega
   rw [List.take_length] at hno
   have hf : fstI row n = -1 := by
     unfold fstI
     rw [List.findIdx?_eq_none_iff.2 (fun a ha => by simpa using hno a ha)]
   rw [hf] at hfin
   (try (conv => whnf)); (repeat ((first | refine qT ?_ | refine qF ?_ | refine qO ?_ | (with_reducible intro z hz); (first | (replace hz := hz (by omega); subst hz) | subst hz)); (try (conv => whnf))))
   exact hfin _ (ILes.refl _)
def aheadB (a b : Ac) : Bool := decide (a.day < b.day ∨ (a.day = b.day ∧ a.num < b.num))
theorem ahead_pc (a b : Ac) : PC Try.prog env0 57 [acv a, acv b] [.bool (aheadB a b)] := by
 unfold acv aheadB
 by_cases h1 : a.day = b.day
 · by_cases h2 : a.num < b.num
   · rw [decide_eq_true (by omega)]
     refine PC.of_va (T := tb0) eqs_ok tb_ok rfl mixed Try.func57 rfl rfl (Nat.le_of_ble_eq_true rfl) ?_; intro Γ C WK LP fin h0 hW hC hB hR hLP hfin
     (try (conv => whnf)); (repeat ((first | refine qT ?_ | refine qF ?_ | refine qO ?_ | (with_reducible intro z hz); (first | (replace hz := hz (by omega); subst hz) | subst hz)); (try (conv => whnf))))
     exact hfin _ (ILes.refl _)
   · rw [decide_eq_false (by omega)]
     refine PC.of_va (T := tb0) eqs_ok tb_ok rfl mixed Try.func57 rfl rfl (Nat.le_of_ble_eq_true rfl) ?_; intro Γ C WK LP fin h0 hW hC hB hR hLP hfin
     (try (conv => whnf)); (repeat ((first | refine qT ?_ | refine qF ?_ | refine qO ?_ | (with_reducible intro z hz); (first | (replace hz := hz (by omega); subst hz) | subst hz)); (try (conv => whnf))))
     exact hfin _ (ILes.refl _)
 · by_cases h2 : a.day < b.day
   · rw [decide_eq_true (by omega)]
     refine PC.of_va (T := tb0) eqs_ok tb_ok rfl mixed Try.func57 rfl rfl (Nat.le_of_ble_eq_true rfl) ?_; intro Γ C WK LP fin h0 hW hC hB hR hLP hfin
     (try (conv => whnf)); (repeat ((first | refine qT ?_ | refine qF ?_ | refine qO ?_ | (with_reducible intro z hz); (first | (replace hz := hz (by omega); subst hz) | subst hz)); (try (conv => whnf))))
     exact hfin _ (ILes.refl _)
   · rw [decide_eq_false (by omega)]
     refine PC.of_va (T := tb0) eqs_ok tb_ok rfl mixed Try.func57 rfl rfl (Nat.le_of_ble_eq_true rfl) ?_; intro Γ C WK LP fin h0 hW hC hB hR hLP hfin
     (try (conv => whnf)); (repeat ((first | refine qT ?_ | refine qF ?_ | refine qO ?_ | (with_reducible intro z hz); (first | (replace hz := hz (by omega); subst hz) | subst hz)); (try (conv => whnf))))
     exact hfin _ (ILes.refl _)
end Go.Proofs.Ytglkpmhamekpmaa.Po
