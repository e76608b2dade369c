/-
  The encoding of words and of a unit alone, by the reference.
-/
import Derived.Test.YtopohipcpomecaaDoorWDg
namespace Go.Proofs.YtopohipcpomecaaDoor.Pd
open Go Go.Pv Go.RowKit Go.Proofs.YtopohipcpomecaaDoor.Pu Go.Proofs.YtopohipcpomecaaDoor.Pb
set_option linter.unusedSimpArgs false
open Lab Lcs Go.Proofs.YtopohipcpomecaaDoor
set_option maxRecDepth 10000
set_option maxHeartbeats 16000000
theorem tqw_id : tdOf Tryd.prog 26 = some ⟨true, 3, [.int .i64 0, .int .i64 0, .int .i64 0], .struct [(0, 1, false), (1, 1, false), (2, 1, false)]⟩ := by kernel_rfl
theorem tqw_mark : tdOf Tryd.prog 51 = some ⟨true, 3, [.int .i64 0, .int .i64 0, .int .i64 0], .struct [(0, 1, false), (1, 1, false), (2, 1, false)]⟩ := by kernel_rfl
theorem tqw_word : tdOf Tryd.prog 53 = some ⟨true, 4, [.str ⟨#[]⟩, .int .i64 0, .int .i64 0, .int .i64 0], .struct [(0, 1, false), (1, 3, true)]⟩ := by kernel_rfl
theorem tqw_words : tdOf Tryd.prog 27 = some ⟨false, 1, [.nil], .slice 53 4 40⟩ := by kernel_rfl
theorem tqw_unit : tdOf Tryd.prog 30 = some ⟨true, 8, [.int .i64 0, .int .i64 0, .int .i64 0, .int .i64 0, .str ⟨#[]⟩, .nil, .nil, .nil], .struct [(0, 3, true), (3, 1, false), (4, 1, false), (5, 1, false), (6, 1, false), (7, 1, false)]⟩ := by kernel_rfl
theorem tqw_units : tdOf Tryd.prog 28 = some ⟨false, 1, [.nil], .slice 30 8 120⟩ := by kernel_rfl
def tdw : List (TypeId × TD) := (26, ⟨true, 3, [.int .i64 0, .int .i64 0, .int .i64 0], .struct [(0, 1, false), (1, 1, false), (2, 1, false)]⟩) :: (51, ⟨true, 3, [.int .i64 0, .int .i64 0, .int .i64 0], .struct [(0, 1, false), (1, 1, false), (2, 1, false)]⟩) :: (53, ⟨true, 4, [.str ⟨#[]⟩, .int .i64 0, .int .i64 0, .int .i64 0], .struct [(0, 1, false), (1, 3, true)]⟩) :: (27, ⟨false, 1, [.nil], .slice 53 4 40⟩) :: (30, ⟨true, 8, [.int .i64 0, .int .i64 0, .int .i64 0, .int .i64 0, .str ⟨#[]⟩, .nil, .nil, .nil], .struct [(0, 3, true), (3, 1, false), (4, 1, false), (5, 1, false), (6, 1, false), (7, 1, false)]⟩) :: (28, ⟨false, 1, [.nil], .slice 30 8 120⟩) :: tdl
theorem tdw_ok : AllTd Tryd.prog tdw := ⟨tqw_id, tqw_mark, tqw_word, tqw_words, tqw_unit, tqw_units, tdl_ok⟩
def tbw : Tb := ⟨Pv.look tdw, eqs, glD, fun _ => [], fun _ => false, fun _ => 0⟩
theorem tbw_ok : ∀ t d, tbw.td t = some d → tdOf Tryd.prog t = some d := Pv.look_ok tdw_ok
def stepW (m : Bool) (s : Str) (w : Wd) : Str := bif m then s ++ (⟨#[32]⟩ ++ encS w.text) ++ (⟨#[64]⟩ ++ thrS w.mark.x w.mark.y w.mark.z) else s ++ (⟨#[32]⟩ ++ encS w.text)
def rowE (m : Bool) (l : List Wd) (n : Int) : Str := l.foldl (stepW m) (numS n)
def wtE : List Wd → Nat
 | [] => 0
 | w :: l => w.text.size + 100 + wtE l
def OkW (l : List Wd) : Prop := ∀ w ∈ l, inN w.mark.x ∧ inN w.mark.y ∧ inN w.mark.z
theorem wt_take {l : List Wd} {k : Nat} {w : Wd} (h : l[k]? = some w) : wtE (l.take (k + 1)) = wtE (l.take k) + (w.text.size + 100) := by
 have : ∀ a b : List Wd, wtE (a ++ b) = wtE a + wtE b := by
   intro a b
   induction a with
   | nil => simp [wtE]
   | cons x a ih => simp only [List.cons_append, wtE, ih]; omega
 rw [take_at h, this]
 simp [wtE]
theorem wt_le (l : List Wd) (k : Nat) : wtE (l.take k) ≤ wtE l := by
 induction l generalizing k with
 | nil => simp [wtE]
 | cons x l ih =>
   cases k with
   | zero => simp [wtE]
   | succ k => simp only [List.take_succ_cons, wtE]; have := ih k; omega
theorem row_take {m : Bool} {l : List Wd} {k : Nat} {w : Wd} {n : Int} (h : l[k]? = some w) : rowE m (l.take (k + 1)) n = stepW m (rowE m (l.take k) n) w := by
 unfold rowE
 rw [take_at h, List.foldl_append, List.foldl_cons, List.foldl_nil]
theorem stepW_len {m : Bool} {s : Str} {w : Wd} (hw : w.text.size ≤ 100000000) (h : inN w.mark.x ∧ inN w.mark.y ∧ inN w.mark.z) : (stepW m s w).size ≤ s.size + (w.text.size + 100) := by
 have h1 := encS_len (s := w.text) (by omega)
 have h2 := thrS_len h.1 h.2.1 h.2.2
 unfold stepW
 cases m
 · rw [cond_false]; simp only [ByteArray.size_append, sz1]; omega
 · rw [cond_true]; simp only [ByteArray.size_append, sz1]; omega
theorem row_len {m : Bool} {l : List Wd} {n : Int} (hb : wtE l ≤ 100000000) (hl : OkW l) (hn : inN n) : ∀ k, k ≤ l.length → (rowE m (l.take k) n).size ≤ 21 + wtE (l.take k)
 | 0, _ => by simpa [rowE, wtE] using num_len hn.1 hn.2
 | k + 1, hk => by
   obtain ⟨w, hw⟩ : ∃ w, l[k]? = some w := ⟨l[k], List.getElem?_eq_getElem (by omega)⟩
   have ih := row_len (m := m) hb hl hn k (by omega)
   have h1 := wt_take hw
   have h2 := wt_le l (k + 1)
   have h3 := stepW_len (m := m) (s := rowE m (l.take k) n) (w := w) (by omega) (hl w (List.mem_of_getElem? hw))
   rw [row_take hw]
   omega
theorem rrow_pc (m : Bool) (l : List Wd) (hl : l.length ≤ 100000000) (hb : wtE l ≤ 100000000) (hok : OkW l) : PC Tryd.prog envH 34 [.sl 4 (l.map wdv), .bool m] [.str (rowE m l ((l.map wdv).length : Nat))] := by
 have hml : (l.map wdv).length = l.length := List.length_map _
 have hD := rdig_pc (((l.map wdv).length : Nat) : Int) (by omega) (by omega)
 refine PC.of_va (T := tbw) eqs_ok tbw_ok rfl mixed Tryd.func34 rfl rfl (Nat.le_of_ble_eq_true rfl) ?_; intro Γ C WK LP fin h0 hW hC hB hR hLP hfin
 (try (conv => whnf)); (repeat ((first | refine qT ?_ | refine qF ?_ | refine qO ?_ | (with_reducible intro z hz); (first | (replace hz := hz (by omega); subst hz) | subst hz) | (refine CallV.mk _ (hC _ _ _ (PCw.of hD)) (fun js hjs => ?_); subst hjs)); (try (conv => whnf))))
 refine hLP _ _ _ Nat (fun k => ⟨[(0, .imm (.sl 4 (l.map wdv))), (1, .imm (.bool m)), (5, .imm (.str (rowE m (l.take k) ((l.map wdv).length : Nat)))), (6, .imm (.int .i64 (k : Nat)))], []⟩) (fun k => k ≤ l.length) (fun k => l.length - k) 0 (Nat.zero_le _) (qSL 0 rfl rfl) ?_
 intro k hk
 have hho := Nat.lt_or_ge k l.length
 cases hho with
 | inl hlt =>
   obtain ⟨w, hw⟩ : ∃ w, l[k]? = some w := ⟨l[k], List.getElem?_eq_getElem hlt⟩
   have hkw := hok w (List.mem_of_getElem? hw)
   have hrl := row_len (m := m) hb hok (n := (((l.map wdv).length : Nat) : Int)) ⟨by omega, by omega⟩ k hk
   have hwt := wt_take hw
   have hwl := wt_le l (k + 1)
   have hP := piece_pc w.text (by omega)
   have hT := three_pc w.mark.x w.mark.y w.mark.z hkw.1 hkw.2.1 hkw.2.2
   have e1 := encS_len (s := w.text) (by omega)
   have e2 := thrS_len hkw.1 hkw.2.1 hkw.2.2
   have z1 := sz1 32
   have z2 := sz1 64
   have z3 : ((⟨#[32]⟩ : Str) ++ encS w.text).size = 1 + (encS w.text).size := by rw [ByteArray.size_append, sz1]
   have z4 : ((⟨#[64]⟩ : Str) ++ thrS w.mark.x w.mark.y w.mark.z).size = 1 + (thrS w.mark.x w.mark.y w.mark.z).size := by rw [ByteArray.size_append, sz1]
   have z5 : (rowE m (l.take k) (((l.map wdv).length : Nat) : Int) ++ ((⟨#[32]⟩ : Str) ++ encS w.text)).size = (rowE m (l.take k) (((l.map wdv).length : Nat) : Int)).size + (1 + (encS w.text).size) := by rw [ByteArray.size_append, z3]
   have hrt := row_take (m := m) (n := (((l.map wdv).length : Nat) : Int)) hw
   unfold stepW at hrt
   cases m with
   | false =>
     rw [cond_false] at hrt
     (try (conv => whnf)); (repeat ((first | refine qT ?_ | refine qF ?_ | refine qO ?_ | (with_reducible intro z hz); (first | (replace hz := hz (by omega); subst hz) | subst hz)); (try (conv => whnf))))
     refine Idx.mk k (wdv w) _ rfl (by simp [hw]) rfl ?_
     (try (conv => whnf)); (repeat ((first | refine qT ?_ | refine qF ?_ | refine qO ?_ | (with_reducible intro z hz); (first | (replace hz := hz (by omega); subst hz) | subst hz) | (refine CallV.mk _ (hC _ _ _ (PCw.of hP)) (fun js hjs => ?_); subst hjs)); (try (conv => whnf))))
     refine ⟨k + 1, by omega, by dsimp only; omega, ?_⟩
     dsimp only []
     rw [hrt]
     exact (qSL 0 rfl rfl)
   | true =>
     rw [cond_true] at hrt
     (try (conv => whnf)); (repeat ((first | refine qT ?_ | refine qF ?_ | refine qO ?_ | (with_reducible intro z hz); (first | (replace hz := hz (by omega); subst hz) | subst hz)); (try (conv => whnf))))
     refine Idx.mk k (wdv w) _ rfl (by simp [hw]) rfl ?_
     (try (conv => whnf)); (repeat ((first | refine qT ?_ | refine qF ?_ | refine qO ?_ | (with_reducible intro z hz); (first | (replace hz := hz (by omega); subst hz) | subst hz) | (refine CallV.mk _ (hC _ _ _ (PCw.of hP)) (fun js hjs => ?_); subst hjs)); (try (conv => whnf))))
     refine Idx.mk k (wdv w) _ rfl (by simp [hw]) rfl ?_
     (try (conv => whnf)); (repeat ((first | refine qT ?_ | refine qF ?_ | refine qO ?_ | (with_reducible intro z hz); (first | (replace hz := hz (by omega); subst hz) | subst hz)); (try (conv => whnf))))
     refine Idx.mk k (wdv w) _ rfl (by simp [hw]) rfl ?_
     (try (conv => whnf)); (repeat ((first | refine qT ?_ | refine qF ?_ | refine qO ?_ | (with_reducible intro z hz); (first | (replace hz := hz (by omega); subst hz) | subst hz)); (try (conv => whnf))))
     refine Idx.mk k (wdv w) _ rfl (by simp [hw]) rfl ?_
     (try (conv => whnf)); (repeat ((first | refine qT ?_ | refine qF ?_ | refine qO ?_ | (with_reducible intro z hz); (first | (replace hz := hz (by omega); subst hz) | subst hz) | (refine CallV.mk _ (hC _ _ _ (PCw.of hT)) (fun js hjs => ?_); subst hjs)); (try (conv => whnf))))
     refine ⟨k + 1, by omega, by dsimp only; omega, ?_⟩
     dsimp only []
     rw [hrt]
     exact (qSL 0 rfl rfl)
 | inr hge =>
   obtain rfl : k = l.length := by omega
   rw [List.take_length]
   (try (conv => whnf)); (repeat ((first | refine qT ?_ | refine qF ?_ | refine qO ?_ | (with_reducible intro z hz); (first | (replace hz := hz (by omega); subst hz) | subst hz)); (try (conv => whnf))))
   exact hfin _ (ILes.refl _)
end Go.Proofs.YtopohipcpomecaaDoor.Pd
