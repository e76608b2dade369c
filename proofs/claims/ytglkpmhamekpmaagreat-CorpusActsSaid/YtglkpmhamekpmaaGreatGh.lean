/-
  Corpus: the law of what is known since when. Corpus: what one gazette more changes (of no program but for the names). Corpus: the numbers of acts that occur more than once, by the reference. Corpus: the law of the gazettes' order.
-/
import Derived.Test.YtglkpmhamekpmaaGreatWDk
namespace Go.Proofs.YtglkpmhamekpmaaGreat.Po
open Go Go.Pv Go.RowKit
set_option linter.unusedSimpArgs false
open Lab Lcs Go.Proofs.YtglkpmhamekpmaaGreat Go.Proofs.YtglkpmhamekpmaaGreat.Pu
set_option maxRecDepth 10000
set_option maxHeartbeats 32000000
end Go.Proofs.YtglkpmhamekpmaaGreat.Po
namespace Go.Proofs.YtglkpmhamekpmaaGreat.Po
open Go Go.Pv Go.RowKit
set_option linter.unusedSimpArgs false
open Lab Lcs Go.Proofs.YtglkpmhamekpmaaGreat Go.Proofs.YtglkpmhamekpmaaGreat.Pu
set_option maxRecDepth 10000
end Go.Proofs.YtglkpmhamekpmaaGreat.Po
namespace Go.Proofs.YtglkpmhamekpmaaGreat.Po
open Go Go.Pv Go.RowKit
set_option linter.unusedSimpArgs false
open Lab Lcs Go.Proofs.YtglkpmhamekpmaaGreat Go.Proofs.YtglkpmhamekpmaaGreat.Pu
set_option maxRecDepth 10000
set_option maxHeartbeats 32000000
def lessZ (x y : Int) : Bool := decide (y < x)
def insZ (x : Int) (out : List Int) : List Int := if (out.dropWhile (lessZ x)).head? = some x then out else out.takeWhile (lessZ x) ++ x :: out.dropWhile (lessZ x)
def twK (row : List Ac) : Nat → List Int
 | 0 => []
 | k + 1 => match row[k]? with
   | some a => if isF row k a = true then twK row k else insZ a.num (twK row k)
   | none => twK row k
def twR (row : List Ac) : List Int := twK row row.length
theorem insZ_len (x : Int) (out : List Int) : (insZ x out).length ≤ out.length + 1 := by
 unfold insZ
 split
 · omega
 · have := congrArg List.length (List.takeWhile_append_dropWhile (p := lessZ x) (l := out))
   rw [List.length_append] at this
   rw [List.length_append, List.length_cons]; omega
theorem twK_len (row : List Ac) : ∀ k, (twK row k).length ≤ k
 | 0 => by simp [twK]
 | k + 1 => by
   have := twK_len row k
   unfold twK
   split
   · split
     · omega
     · rename_i a _ _
       have := insZ_len a.num (twK row k)
       omega
   · omega
theorem insZ_row (out : List Int) (x : Int) (j : Nat) : ((out.map kI).map PV.imm).take j ++ [PV.imm (kI x)] ++ (((out.map kI).map PV.imm).drop j).take (((out.map kI).map PV.imm).length - j) = ((out.take j ++ x :: out.drop j).map kI).map PV.imm := by
 rw [List.take_of_length_le (l := ((out.map kI).map PV.imm).drop j) (by simp)]
 simp [List.map_take, List.map_drop]
theorem dropZ_row (out : List Int) (j : Nat) : [] ++ (((out.map kI).map PV.imm).drop j).take (((out.map kI).map PV.imm).length - j) = ((out.drop j).map kI).map PV.imm := by
 rw [List.take_of_length_le (l := ((out.map kI).map PV.imm).drop j) (by simp)]
 simp [List.map_drop]
theorem twice_pc (l : List Gz) (hl : l.length ≤ 1000) (hg : ∀ g ∈ l, g.acts.length ≤ 1000) : PC Tryz.prog env0 16 [.sl 4 (l.map gzv)] [.sl 1 ((twR (allA l)).map kI)] := by
 have hAl := all_pc l hl hg
 have hln := allA_len l hg
 unfold twR
 generalize allA l = row at *
 have hml : (row.map acv).length = row.length := List.length_map _
 refine PC.of_va (T := tb0) eqs_ok tb_ok rfl mixed Tryz.func16 rfl rfl (Nat.le_of_ble_eq_true rfl) ?_; intro Γ C WK LP fin h0 hW hC hB hR hLP hfin
 (try (conv => whnf)); (repeat ((first | refine qT ?_ | refine qF ?_ | refine qO ?_ | (with_reducible intro z hz); (first | (replace hz := hz (by omega); subst hz) | subst hz) | (refine CallV.mk _ (hC _ _ _ (PCw.of hAl)) (fun js hjs => ?_); subst hjs)); (try (conv => whnf))))
 refine hLP _ _ _ Nat (fun k => ⟨[(3, .imm (.sl 7 (row.map acv))), (4, .row 1 1), (5, .imm (.int .i64 (k : Nat)))], [.dead 0, .row 3 1 1 (((twK row k).map kI).map .imm)]⟩) (fun k => k ≤ row.length) (fun k => row.length - k) 0 (Nat.zero_le _) ((WeakA.row 1 ((((twK row 0).map kI).map .imm)) rfl (by rfl)).trans (qSL 2 rfl rfl)) ?_
 intro k hk
 have hho := Nat.lt_or_ge k row.length
 cases hho with
 | inl hlt =>
   refine (?_ : ∀ Q : Exit → AS → Prop, vcS _ _ _ _ _ _ _ (loopQA _ _ _ _ _ _ Q)) _; intro Q
   obtain ⟨a, ha⟩ : ∃ a, row[k]? = some a := ⟨row[k], List.getElem?_eq_getElem hlt⟩
   have hFs := fst_pc row a.num (by omega)
   have hkl := twK_len row k
   by_cases hF : fstI row a.num = (k : Int)
   · have hst : twK row (k + 1) = twK row k := by
       rw [twK, ha]
       dsimp only
       rw [if_pos (by unfold isF; simpa using hF)]
     rw [hF] at hFs
     (try (conv => whnf)); (repeat ((first | refine qT ?_ | refine qF ?_ | refine qO ?_ | (with_reducible intro z hz); (first | (replace hz := hz (by omega); subst hz) | subst hz)); (try (conv => whnf))))
     refine Idx.mk k (acv a) _ rfl (by simp [ha]) rfl ?_
     (try (conv => whnf)); (repeat ((first | refine qT ?_ | refine qF ?_ | refine qO ?_ | (with_reducible intro z hz); (first | (replace hz := hz (by omega); subst hz) | subst hz) | (refine CallV.mk _ (hC _ _ _ (PCw.of hFs)) (fun js hjs => ?_); subst hjs)); (try (conv => whnf))))
     exact ⟨k + 1, by omega, by dsimp only; omega, by
       dsimp only []
       rw [hst]
       exact (qSL 2 rfl rfl)⟩
   · have hst : twK row (k + 1) = insZ a.num (twK row k) := by
       rw [twK, ha]
       dsimp only
       rw [if_neg (by unfold isF; simpa using hF)]
     generalize fstI row a.num = z at *
     generalize twK row k = out at *
     have hol : ((out.map kI).map PV.imm).length = out.length := by simp
     (try (conv => whnf)); (repeat ((first | refine qT ?_ | refine qF ?_ | refine qO ?_ | (with_reducible intro z hz); (first | (replace hz := hz (by omega); subst hz) | subst hz)); (try (conv => whnf))))
     refine Idx.mk k (acv a) _ rfl (by simp [ha]) rfl ?_
     (try (conv => whnf)); (repeat ((first | refine qT ?_ | refine qF ?_ | refine qO ?_ | (with_reducible intro z hz); (first | (replace hz := hz (by omega); subst hz) | subst hz) | (refine CallV.mk _ (hC _ _ _ (PCw.of hFs)) (fun js hjs => ?_); subst hjs)); (try (conv => whnf))))
     refine hLP _ _ _ Nat (fun j => ⟨[(3, .imm (.sl 7 (row.map acv))), (4, .row 1 1), (5, .imm (.int .i64 (k : Nat))), (6, .imm (.int .i64 (j : Nat)))], [.dead 0, .row 3 1 1 ((out.map kI).map .imm)]⟩) (fun j => j ≤ out.length ∧ ∀ b ∈ out.take j, lessZ a.num b = true) (fun j => out.length - j) 0 ⟨Nat.zero_le _, by simp⟩ (qSL 2 rfl rfl) ?_
     rintro j ⟨hj, hall⟩
     have hfinish : ∀ (hh : j = out.length ∨ ∃ y, out[j]? = some y ∧ lessZ a.num y = false), insZ a.num out = if out[j]? = some a.num then out else out.take j ++ a.num :: out.drop j := fun hh => by
       obtain ⟨h1, h2⟩ := tw_at (p := lessZ a.num) hall hh
       unfold insZ
       rw [h1, h2, List.head?_drop]
     have hhj := Nat.lt_or_ge j out.length
     cases hhj with
     | inl hjl =>
       obtain ⟨b, hb⟩ : ∃ b, out[j]? = some b := ⟨out[j], List.getElem?_eq_getElem hjl⟩
       have hrb : ((out.map kI).map PV.imm)[j]? = some (.imm (kI b)) := by simp [hb]
       unfold kI at hrb
       by_cases hab : b < a.num
       · (try (conv => whnf)); (repeat ((first | refine qT ?_ | refine qF ?_ | refine qO ?_ | (with_reducible intro z hz); (first | (replace hz := hz (by omega); subst hz) | subst hz)); (try (conv => whnf))))
         refine Pos.mk j rfl (by omega) ?_
         (try (conv => whnf)); (repeat ((first | refine qT ?_ | refine qF ?_ | refine qO ?_ | (with_reducible intro z hz); (first | (replace hz := hz (by omega); subst hz) | subst hz)); (try (conv => whnf))))
         refine At.mk _ hrb ?_
         (try (conv => whnf)); (repeat ((first | refine qT ?_ | refine qF ?_ | refine qO ?_ | (with_reducible intro z hz); (first | (replace hz := hz (by omega); subst hz) | subst hz)); (try (conv => whnf))))
         refine Idx.mk k (acv a) _ rfl (by simp [ha]) rfl ?_
         (try (conv => whnf)); (repeat ((first | refine qT ?_ | refine qF ?_ | refine qO ?_ | (with_reducible intro z hz); (first | (replace hz := hz (by omega); subst hz) | subst hz)); (try (conv => whnf))))
         exact ⟨j + 1, ⟨by omega, fun x hx => by
           rw [take_at hb] at hx
           rcases List.mem_append.1 hx with hx | hx
           · exact hall x hx
           · obtain rfl := List.mem_singleton.1 hx; exact decide_eq_true hab⟩, by dsimp only; omega, (qSL 2 rfl rfl)⟩
       · have hins := hfinish (Or.inr ⟨b, hb, decide_eq_false hab⟩)
         by_cases hbe : b = a.num
         · rw [if_pos (by rw [hb, hbe])] at hins
           (try (conv => whnf)); (repeat ((first | refine qT ?_ | refine qF ?_ | refine qO ?_ | (with_reducible intro z hz); (first | (replace hz := hz (by omega); subst hz) | subst hz)); (try (conv => whnf))))
           refine Pos.mk j rfl (by omega) ?_
           (try (conv => whnf)); (repeat ((first | refine qT ?_ | refine qF ?_ | refine qO ?_ | (with_reducible intro z hz); (first | (replace hz := hz (by omega); subst hz) | subst hz)); (try (conv => whnf))))
           refine At.mk _ hrb ?_
           (try (conv => whnf)); (repeat ((first | refine qT ?_ | refine qF ?_ | refine qO ?_ | (with_reducible intro z hz); (first | (replace hz := hz (by omega); subst hz) | subst hz)); (try (conv => whnf))))
           refine Idx.mk k (acv a) _ rfl (by simp [ha]) rfl ?_
           (try (conv => whnf)); (repeat ((first | refine qT ?_ | refine qF ?_ | refine qO ?_ | (with_reducible intro z hz); (first | (replace hz := hz (by omega); subst hz) | subst hz)); (try (conv => whnf))))
           refine Pos.mk j rfl (by omega) ?_
           (try (conv => whnf)); (repeat ((first | refine qT ?_ | refine qF ?_ | refine qO ?_ | (with_reducible intro z hz); (first | (replace hz := hz (by omega); subst hz) | subst hz)); (try (conv => whnf))))
           refine At.mk _ hrb ?_
           (try (conv => whnf)); (repeat ((first | refine qT ?_ | refine qF ?_ | refine qO ?_ | (with_reducible intro z hz); (first | (replace hz := hz (by omega); subst hz) | subst hz)); (try (conv => whnf))))
           refine Idx.mk k (acv a) _ rfl (by simp [ha]) rfl ?_
           (try (conv => whnf)); (repeat ((first | refine qT ?_ | refine qF ?_ | refine qO ?_ | (with_reducible intro z hz); (first | (replace hz := hz (by omega); subst hz) | subst hz)); (try (conv => whnf))))
           exact ⟨k + 1, by omega, by dsimp only; omega, by
             dsimp only []
             rw [hst, hins]
             exact (qSL 2 rfl rfl)⟩
         · rw [if_neg (by rw [hb]; simpa using hbe)] at hins
           (try (conv => whnf)); (repeat ((first | refine qT ?_ | refine qF ?_ | refine qO ?_ | (with_reducible intro z hz); (first | (replace hz := hz (by omega); subst hz) | subst hz)); (try (conv => whnf))))
           refine Pos.mk j rfl (by omega) ?_
           (try (conv => whnf)); (repeat ((first | refine qT ?_ | refine qF ?_ | refine qO ?_ | (with_reducible intro z hz); (first | (replace hz := hz (by omega); subst hz) | subst hz)); (try (conv => whnf))))
           refine At.mk _ hrb ?_
           (try (conv => whnf)); (repeat ((first | refine qT ?_ | refine qF ?_ | refine qO ?_ | (with_reducible intro z hz); (first | (replace hz := hz (by omega); subst hz) | subst hz)); (try (conv => whnf))))
           refine Idx.mk k (acv a) _ rfl (by simp [ha]) rfl ?_
           (try (conv => whnf)); (repeat ((first | refine qT ?_ | refine qF ?_ | refine qO ?_ | (with_reducible intro z hz); (first | (replace hz := hz (by omega); subst hz) | subst hz)); (try (conv => whnf))))
           refine Pos.mk j rfl (by omega) ?_
           (try (conv => whnf)); (repeat ((first | refine qT ?_ | refine qF ?_ | refine qO ?_ | (with_reducible intro z hz); (first | (replace hz := hz (by omega); subst hz) | subst hz)); (try (conv => whnf))))
           refine At.mk _ hrb ?_
           (try (conv => whnf)); (repeat ((first | refine qT ?_ | refine qF ?_ | refine qO ?_ | (with_reducible intro z hz); (first | (replace hz := hz (by omega); subst hz) | subst hz)); (try (conv => whnf))))
           refine Idx.mk k (acv a) _ rfl (by simp [ha]) rfl ?_
           (try (conv => whnf)); (repeat ((first | refine qT ?_ | refine qF ?_ | refine qO ?_ | (with_reducible intro z hz); (first | (replace hz := hz (by omega); subst hz) | subst hz)); (try (conv => whnf))))
           refine Idx.mk k (acv a) _ rfl (by simp [ha]) rfl ?_
           (try (conv => whnf)); (repeat ((first | refine qT ?_ | refine qF ?_ | refine qO ?_ | (with_reducible intro z hz); (first | (replace hz := hz (by omega); subst hz) | subst hz)); (try (conv => whnf))))
           exact ⟨k + 1, by omega, by dsimp only; omega, by
             dsimp only []
             rw [hst, hins]
             exact (WeakA.row 1 ((((out.take _ ++ a.num :: out.drop _).map kI).map .imm)) rfl (by exact insZ_row out a.num _)).trans ((WeakA.row 2 ((((out.drop _).map kI).map .imm)) rfl (by exact dropZ_row out _)).trans ((WeakA.renew 1 1 rfl (by first | omega | (intro _; rw [hk0 _ _ rfl]; exact Nat.le_of_ble_eq_true rfl)) (by repeat (first | exact trivial | refine And.intro (rgL_imms _ _ _ _) ?_ | refine And.intro rfl ?_))).trans (qSL 2 rfl rfl)))⟩
     | inr hjg =>
       obtain rfl : j = out.length := by omega
       have hins := hfinish (Or.inl rfl)
       rw [if_neg (by rw [List.getElem?_eq_none (Nat.le_refl _)]; simp)] at hins
       (try (conv => whnf)); (repeat ((first | refine qT ?_ | refine qF ?_ | refine qO ?_ | (with_reducible intro z hz); (first | (replace hz := hz (by omega); subst hz) | subst hz)); (try (conv => whnf))))
       refine Owe.mk ⟨by omega, by rw [List.length_nil]; unfold most; omega⟩ ?_
       (try (conv => whnf)); (repeat ((first | refine qT ?_ | refine qF ?_ | refine qO ?_ | (with_reducible intro z hz); (first | (replace hz := hz (by omega); subst hz) | subst hz)); (try (conv => whnf))))
       refine Idx.mk k (acv a) _ rfl (by simp [ha]) rfl ?_
       (try (conv => whnf)); (repeat ((first | refine qT ?_ | refine qF ?_ | refine qO ?_ | (with_reducible intro z hz); (first | (replace hz := hz (by omega); subst hz) | subst hz)); (try (conv => whnf))))
       exact ⟨k + 1, by omega, by dsimp only; omega, by
         dsimp only []
         rw [hst, hins]
         exact (WeakA.row 1 ((((out.take _ ++ a.num :: out.drop _).map kI).map .imm)) rfl (by exact insZ_row out a.num _)).trans ((WeakA.row 2 ((((out.drop _).map kI).map .imm)) rfl (by exact dropZ_row out _)).trans ((WeakA.renew 1 1 rfl (by first | omega | (intro _; rw [hk0 _ _ rfl]; exact Nat.le_of_ble_eq_true rfl)) (by repeat (first | exact trivial | refine And.intro (rgL_imms _ _ _ _) ?_ | refine And.intro rfl ?_))).trans (qSL 2 rfl rfl)))⟩
 | inr hge =>
   obtain rfl : k = row.length := by omega
   (try (conv => whnf)); (repeat ((first | refine qT ?_ | refine qF ?_ | refine qO ?_ | (with_reducible intro z hz); (first | (replace hz := hz (by omega); subst hz) | subst hz)); (try (conv => whnf))))
   refine Imms.mk ((twK row row.length).map kI) rfl ?_
   (try (conv => whnf)); (repeat ((first | refine qT ?_ | refine qF ?_ | refine qO ?_ | (with_reducible intro z hz); (first | (replace hz := hz (by omega); subst hz) | subst hz)); (try (conv => whnf))))
   exact hfin _ (ILes.refl _)
end Go.Proofs.YtglkpmhamekpmaaGreat.Po
namespace Go.Proofs.YtglkpmhamekpmaaGreat.Po
open Go Go.Pv Go.RowKit
set_option linter.unusedSimpArgs false
open Lab Lcs Go.Proofs.YtglkpmhamekpmaaGreat Go.Proofs.YtglkpmhamekpmaaGreat.Pu
set_option maxRecDepth 10000
set_option maxHeartbeats 32000000
open Go.Proofs (ltOf)
end Go.Proofs.YtglkpmhamekpmaaGreat.Po
