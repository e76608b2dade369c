/-
  splice and its function.
-/
import Derived.Test.YtckamfmllkpafaaWWb
namespace Go.Proofs.Ytckamfmllkpafaa.Pw
open Go Go.Pv Go.RowKit Go.Proofs.Ytckamfmllkpafaa.Pu Go.Proofs.Ytckamfmllkpafaa.Pb
set_option linter.unusedSimpArgs false
open Lab Lcs Go.Proofs.Ytckamfmllkpafaa
set_option maxRecDepth 10000
set_option maxHeartbeats 16000000
def lay (es xs : List Wd) (h : Nat) : List Wd := es.take h ++ xs ++ es.drop (h + xs.length)
theorem fill_pcb (xs es : List Wd) (h n : Nat) (hx : xs.length ≤ n) (hn : n ≤ 1000000) : PCB Try.prog env0 46 [.imm (.sl 4 (xs.map wdv)), .ptr 0 1 0] [.box 1 [.sub 1 1 4 h n], .row 49 4 1 ((es.map wdv).map .imm)] [] [.box 1 [.sub 1 1 4 (h + xs.length) (n - xs.length)], .row 49 4 1 (((lay es xs h).map wdv).map .imm)] := by
 have hml : (xs.map wdv).length = xs.length := List.length_map _
 have hml2 : ((xs.map wdv).map PV.imm).length = xs.length := by rw [List.length_map, List.length_map]
 have hml3 : ((((xs.map wdv).map PV.imm).length : Nat) : Int).toNat = xs.length := by rw [Int.toNat_natCast, hml2]
 refine PCB.of_va (T := tb0) eqs_ok tb_ok rfl mixed Try.func46 rfl rfl rfl (Nat.le_of_ble_eq_true rfl) rfl ?_; intro Γ C WK LP fin h0 hk0 hW hC hB hR hLP hfin
 (try (conv => whnf)); (repeat ((first | refine qT ?_ | refine qF ?_ | refine qO ?_ | (with_reducible intro z hz); (first | (replace hz := hz (by omega); subst hz) | subst hz)); (try (conv => whnf))))
 rw [hml3]
 exact hfin _ (((WeakA.row 1 (((lay es xs h).map wdv).map .imm) rfl (by simp [lay]))).trans (qSL 2 rfl rfl))
theorem fill2_pcb (xs es : List Wd) (h n : Nat) (hx : xs.length ≤ n) (hn : n ≤ 1000000) : PCB Try.prog env0 46 [.row 1 1, .ptr 0 1 0] [.box 1 [.sub 2 1 4 h n], .row 49 4 1 ((xs.map wdv).map .imm), .row 49 4 1 ((es.map wdv).map .imm)] [] [.box 1 [.sub 2 1 4 (h + xs.length) (n - xs.length)], .row 49 4 1 ((xs.map wdv).map .imm), .row 49 4 1 (((lay es xs h).map wdv).map .imm)] := by
 have hml2 : ((xs.map wdv).map PV.imm).length = xs.length := by rw [List.length_map, List.length_map]
 have hml3 : ((((xs.map wdv).map PV.imm).length : Nat) : Int).toNat = xs.length := by rw [Int.toNat_natCast, hml2]
 refine PCB.of_va (T := tb0) eqs_ok tb_ok rfl mixed Try.func46 rfl rfl rfl (Nat.le_of_ble_eq_true rfl) rfl ?_; intro Γ C WK LP fin h0 hk0 hW hC hB hR hLP hfin
 (try (conv => whnf)); (repeat ((first | refine qT ?_ | refine qF ?_ | refine qO ?_ | (with_reducible intro z hz); (first | (replace hz := hz (by omega); subst hz) | subst hz)); (try (conv => whnf))))
 rw [hml3]
 exact hfin _ (((WeakA.row 2 (((lay es xs h).map wdv).map .imm) rfl (by simp [lay]))).trans (qSL 3 rfl rfl))
def spl (w : List Wd) (dr : Nat) (nw : List Str) (a i : Int) : Nat → Nat → List Nat → List Wd
 | _, d, [] => w.drop d
 | k, d, t :: r => (w.drop d).take (t - d) ++ mkW a i ((k : Int) * ((nw.length : Nat) : Int)) nw ++ spl w dr nw a i (k + 1) (t + dr) r
def OkAt (n dr : Nat) : Nat → List Nat → Prop
 | d, [] => d ≤ n
 | d, t :: r => d ≤ t ∧ t + dr ≤ n ∧ OkAt n dr (t + dr) r
theorem spl_len {w : List Wd} {dr : Nat} {nw : List Str} {a i : Int} : ∀ {l : List Nat} {k d : Nat}, OkAt w.length dr d l → ((spl w dr nw a i k d l).length : Int) = (w.length : Int) - d + (l.length : Int) * ((nw.length : Int) - dr)
 | [], k, d, h => by
   have : d ≤ w.length := h
   simp only [spl, List.length_drop, List.length_nil]
   omega
 | t :: r, k, d, h => by
   obtain ⟨h1, h2, h3⟩ := h
   have ih := spl_len (nw := nw) (a := a) (i := i) (k := k + 1) h3
   simp only [spl, List.length_append, List.length_take, List.length_drop, mkW_len, List.length_cons]
   rw [Int.natCast_add, Int.natCast_add, ih, show ((r.length + 1 : Nat) : Int) = (r.length : Int) + 1 by omega, Int.add_mul]
   omega
theorem lay_fill {F xs z : List Wd} (_hx : xs.length ≤ z.length) : lay (F ++ z) xs F.length = F ++ xs ++ z.drop xs.length := by
 unfold lay
 rw [List.take_left, List.drop_append, List.drop_of_length_le (by omega), List.nil_append, Nat.add_sub_cancel_left]
def zW : Wd := ⟨⟨#[]⟩, ⟨0, 0, 0⟩⟩
theorem at_next {w : List Wd} {dr : Nat} {nw : List Str} {a i : Int} {l : List Nat} {k d t : Nat} (hx : l[k]? = some t) : spl w dr nw a i k d (l.drop k) = (w.drop d).take (t - d) ++ mkW a i ((k : Int) * ((nw.length : Nat) : Int)) nw ++ spl w dr nw a i (k + 1) (t + dr) (l.drop (k + 1)) := by
 obtain ⟨hk, he⟩ := List.getElem?_eq_some_iff.1 hx
 rw [List.drop_eq_getElem_cons hk, he]
 rfl
theorem ok_next {n dr : Nat} {l : List Nat} {k d t : Nat} (hx : l[k]? = some t) (h : OkAt n dr d (l.drop k)) : d ≤ t ∧ t + dr ≤ n ∧ OkAt n dr (t + dr) (l.drop (k + 1)) := by
 obtain ⟨hk, he⟩ := List.getElem?_eq_some_iff.1 hx
 rw [List.drop_eq_getElem_cons hk, he] at h
 exact h
end Go.Proofs.Ytckamfmllkpafaa.Pw
