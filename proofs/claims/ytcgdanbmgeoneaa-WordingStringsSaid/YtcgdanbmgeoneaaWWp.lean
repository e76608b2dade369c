/-
  Occurrences that are edited one at a time, from the last to the first.
-/
import Derived.Test.YtcgdanbmgeoneaaWWo
import Derived.Test.YtcgdanbmgeoneaaWWk
namespace Go.Proofs.Ytcgdanbmgeoneaa.Pw
open Go Go.Pv Go.RowKit Go.Proofs.Ytcgdanbmgeoneaa.Pu Go.Proofs.Ytcgdanbmgeoneaa.Pb
set_option linter.unusedSimpArgs false
open Lab Lcs Go.Proofs.Ytcgdanbmgeoneaa
set_option maxRecDepth 10000
set_option maxHeartbeats 16000000
theorem atB_pre {L M p : List Str} {m i : Nat} (h : L.take m = M.take m) (hi : i + p.length ≤ m) : atB L p i = atB M p i := by
 have e : ∀ X : List Str, (X.drop i).take p.length = ((X.take m).drop i).take p.length := fun X => by rw [List.drop_take, List.take_take, Nat.min_eq_left (by omega)]
 unfold atB
 rw [e L, e M, h]
theorem occF_pre {L M p : List Str} {m : Nat} (hp : 0 < p.length) (h : L.take m = M.take m) (hM : m ≤ M.length) : ∀ (n i k : Nat), L.length + 1 - i ≤ n → k ≤ (occF L p i).length → (∀ t ∈ (occF L p i).take k, t + p.length ≤ m) → (occF M p i).take k = (occF L p i).take k
 | _, _, 0, _, _, _ => by simp
 | 0, i, k + 1, hn, hk, _ => by
   rw [occF_end (by omega)] at hk
   exact absurd hk (by simp)
 | n + 1, i, k + 1, hn, hk, ht => by
   by_cases h1 : i + p.length ≤ L.length
   · by_cases h2 : atB L p i = true
     · rw [occF_hit hp h1 h2] at hk ht ⊢
       have hi := ht i (by simp)
       rw [occF_hit hp (by omega) (by rw [← atB_pre h hi]; exact h2), List.take_succ_cons, List.take_succ_cons, occF_pre hp h hM n (i + p.length) k (by omega) (by simpa using hk) (fun t hx => ht t (by rw [List.take_succ_cons]; exact List.mem_cons_of_mem _ hx))]
     · rw [occF_miss hp h1 h2] at hk ht ⊢
       have hok := ok_occ (l := L) hp _ (i + 1) (Nat.le_refl _) (Nat.le_refl _) (by omega) rfl
       have hi : i + p.length ≤ m := by
         cases hq : occF L p (i + 1) with
         | nil => rw [hq] at hk; exact absurd hk (by simp)
         | cons t r =>
           rw [hq] at ht hok
           have := ht t (by simp)
           have := hok.1
           omega
       rw [occF_miss hp (by omega) (by rw [← atB_pre h hi]; exact h2)]
       exact occF_pre hp h hM n (i + 1) (k + 1) (by omega) hk ht
   · rw [occF_end h1] at hk
     exact absurd hk (by simp)
theorem ok_sorted {N P : Nat} : ∀ {l : List Nat} {d : Nat}, OkAt N P d l → ∀ (j k : Nat) {x t : Nat}, j ≤ k → l[j]? = some x → l[k]? = some t → x ≤ t
 | [], _, _, j, k, x, t, _, hx, _ => by simp at hx
 | a :: r, d, ⟨h1, h2, h3⟩, 0, 0, x, t, _, hx, ht => by simp at hx ht; omega
 | a :: r, d, ⟨h1, h2, h3⟩, 0, k + 1, x, t, _, hx, ht => by
   simp only [List.getElem?_cons_zero, Option.some.injEq, List.getElem?_cons_succ] at hx ht
   have := (ok_mem h3 t (List.mem_of_getElem? ht)).1
   omega
 | a :: r, d, ⟨h1, h2, h3⟩, j + 1, 0, x, t, hjk, _, _ => absurd hjk (by omega)
 | a :: r, d, ⟨h1, h2, h3⟩, j + 1, k + 1, x, t, hjk, hx, ht => by
   simp only [List.getElem?_cons_succ] at hx ht
   exact ok_sorted h3 j k (by omega) hx ht
theorem chs_kth {w R : List Wd} {p : List Str} {k t : Nat} (hp : 0 < p.length) (ht : (occs (txts w) p)[k]? = some t) :
   chs (occs (txts (w.take (t + p.length) ++ R)) p) (((k + 1 : Nat) : Int)) = [t] := by
 have hOk := ok_occs (w := w) hp 0
 rw [show chs (occs (txts w) p) 0 = occs (txts w) p by unfold chs; rw [if_pos rfl]] at hOk
 have hlt := (List.getElem?_eq_some_iff.1 ht).1
 have hend := (ok_mem hOk t (List.mem_of_getElem? ht)).2
 have hl : (txts (w.take (t + p.length) ++ R)).length = (t + p.length) + R.length := by rw [txts_len, List.length_append, List.length_take]; omega
 have htk : (txts w).take (t + p.length) = (txts (w.take (t + p.length) ++ R)).take (t + p.length) := by
   unfold txts
   rw [List.map_append, List.take_append_of_le_length (by rw [List.length_map, List.length_take]; omega), List.map_take, List.take_take, Nat.min_self]
 have hpre := occF_pre (m := t + p.length) hp htk (by omega) _ 0 (k + 1) (Nat.le_refl _) (by rw [← occs_F hp]; omega) (by
   intro x hx
   rw [← occs_F hp] at hx
   obtain ⟨j, hj, hjx⟩ := List.getElem_of_mem hx
   rw [List.length_take] at hj
   rw [List.getElem_take] at hjx
   have := ok_sorted hOk j k (by omega) (List.getElem?_eq_some_iff.2 ⟨by omega, hjx⟩) ht
   omega)
 rw [← occs_F hp, ← occs_F hp] at hpre
 have hg : (occs (txts (w.take (t + p.length) ++ R)) p)[k]? = some t := by
   have e : ∀ X : List Nat, X[k]? = (X.take (k + 1))[k]? := fun X => by rw [List.getElem?_take_of_lt (by omega)]
   rw [e, hpre, ← e]
   exact ht
 unfold chs
 rw [if_neg (by omega), show (((k + 1 : Nat) : Int)).toNat - 1 = k by omega]
 generalize occs (txts (w.take (t + p.length) ++ R)) p = Z at hg
 obtain ⟨h1, h2⟩ := List.getElem?_eq_some_iff.1 hg
 rw [List.drop_eq_getElem_cons h1, h2]
 rfl
end Go.Proofs.Ytcgdanbmgeoneaa.Pw
