/-
  Corpus: the reference's acts that count.
-/
import Derived.Test.YtglkpmhamekpmaaWCn
namespace Go.Proofs.Ytglkpmhamekpmaa.Po
open Go Go.Pv Go.RowKit
set_option linter.unusedSimpArgs false
open Lab Lcs Go.Proofs.Ytglkpmhamekpmaa Go.Proofs.Ytglkpmhamekpmaa.Pu
set_option maxRecDepth 10000
set_option maxHeartbeats 32000000
def isF (row : List Ac) (k : Nat) (a : Ac) : Bool := decide (fstI row a.num = (k : Int))
def insA (a : Ac) (out : List Ac) : List Ac := out.takeWhile (fun b => aheadB b a) ++ a :: out.dropWhile (fun b => aheadB b a)
def actsK (row : List Ac) : Nat → List Ac
 | 0 => []
 | k + 1 => match row[k]? with
   | some a => if isF row k a = true then insA a (actsK row k) else actsK row k
   | none => actsK row k
def actsR (row : List Ac) : List Ac := actsK row row.length
theorem insA_len (a : Ac) (out : List Ac) : (insA a out).length = out.length + 1 := by
 unfold insA
 have := congrArg List.length (List.takeWhile_append_dropWhile (p := fun b => aheadB b a) (l := out))
 rw [List.length_append] at this
 rw [List.length_append, List.length_cons]; omega
theorem actsK_len (row : List Ac) : ∀ k, (actsK row k).length ≤ k
 | 0 => by simp [actsK]
 | k + 1 => by
   have := actsK_len row k
   unfold actsK
   split
   · split
     · rw [insA_len]; omega
     · omega
   · omega
theorem tw_at {α : Type} {p : α → Bool} : ∀ {l : List α} {j : Nat}, (∀ x ∈ l.take j, p x = true) → (j = l.length ∨ ∃ y, l[j]? = some y ∧ p y = false) → l.takeWhile p = l.take j ∧ l.dropWhile p = l.drop j
 | [], j, _, h => by simp
 | a :: l, 0, _, h => by
   rcases h with h | ⟨y, hy, hp⟩
   · simp at h
   · obtain rfl : a = y := by simpa using hy
     simp [hp]
 | a :: l, j + 1, hl, h => by
   have ha : p a = true := hl a (by simp)
   obtain ⟨h1, h2⟩ := tw_at (l := l) (j := j) (fun x hx => hl x (by simp [hx])) (by
     rcases h with h | ⟨y, hy, hp⟩
     · left; simpa using h
     · right; exact ⟨y, by simpa using hy, hp⟩)
   simp [ha, h1, h2]
theorem ins_row (out : List Ac) (a : Ac) (j : Nat) : ((out.map acv).map PV.imm).take j ++ [PV.imm (acv a)] ++ (((out.map acv).map PV.imm).drop j).take (((out.map acv).map PV.imm).length - j) = ((out.take j ++ a :: out.drop j).map acv).map PV.imm := by
 rw [List.take_of_length_le (l := ((out.map acv).map PV.imm).drop j) (by simp)]
 simp [List.map_take, List.map_drop]
theorem drop_row (out : List Ac) (j : Nat) : [] ++ (((out.map acv).map PV.imm).drop j).take (((out.map acv).map PV.imm).length - j) = ((out.drop j).map acv).map PV.imm := by
 rw [List.take_of_length_le (l := ((out.map acv).map PV.imm).drop j) (by simp)]
 simp [List.map_drop]
theorem acts_pc (l : List Gz) (hl : l.length ≤ 1000) (hg : ∀ g ∈ l, g.acts.length ≤ 1000) : PC Try.prog env0 30 [.sl 4 (l.map gzv)] [.sl 7 ((actsR (allA l)).map acv)] := by
 have hAl := all_pc l hl hg
 have hln := allA_len l hg
 unfold actsR
 generalize allA l = row at *
 have hml : (row.map acv).length = row.length := List.length_map _
 refine PC.of_va (T := tb0) eqs_ok tb_ok rfl mixed Try.func30 rfl rfl (Nat.le_of_ble_eq_true rfl) ?_; intro Γ C WK LP fin h0 hW hC hB hR hLP hfin
 (try (conv => whnf)); (repeat ((first | refine qT ?_ | refine qF ?_ | refine qO ?_ | (with_reducible intro z hz); (first | (replace hz := hz (by omega); subst hz) | subst hz) | (refine CallV.mk _ (hC _ _ _ (PCw.of hAl)) (fun js hjs => ?_); subst hjs)); (try (conv => whnf))))
 refine hLP _ _ _ Nat (fun k => ⟨[(3, .imm (.sl 7 (row.map acv))), (4, .row 1 1), (5, .imm (.int .i64 (k : Nat)))], [.dead 0, .row 57 7 1 (((actsK row k).map acv).map .imm)]⟩) (fun k => k ≤ row.length) (fun k => row.length - k) 0 (Nat.zero_le _) ((WeakA.row 1 ((((actsK row 0).map acv).map .imm)) rfl (by rfl)).trans (qSL 2 rfl rfl)) ?_
 intro k hk
 have hho := Nat.lt_or_ge k row.length
 cases hho with
 | inl hlt =>
   refine (?_ : ∀ Q : Exit → AS → Prop, vcS _ _ _ _ _ _ _ (loopQA _ _ _ _ _ _ Q)) _; intro Q
   obtain ⟨a, ha⟩ : ∃ a, row[k]? = some a := ⟨row[k], List.getElem?_eq_getElem hlt⟩
   have hFs := fst_pc row a.num (by omega)
   have hkl := actsK_len row k
   by_cases hF : fstI row a.num = (k : Int)
   · have hst : actsK row (k + 1) = insA a (actsK row k) := by
       rw [actsK, ha]
       dsimp only
       rw [if_pos (by unfold isF; simpa using hF)]
     rw [hF] at hFs
     generalize actsK row k = out at *
     have hol : ((out.map acv).map PV.imm).length = out.length := by simp
     (try (conv => whnf)); (repeat ((first | refine qT ?_ | refine qF ?_ | refine qO ?_ | (with_reducible intro z hz); (first | (replace hz := hz (by omega); subst hz) | subst hz)); (try (conv => whnf))))
     refine Idx.mk k (acv a) _ rfl (by simp [ha]) rfl ?_
     (try (conv => whnf)); (repeat ((first | refine qT ?_ | refine qF ?_ | refine qO ?_ | (with_reducible intro z hz); (first | (replace hz := hz (by omega); subst hz) | subst hz) | (refine CallV.mk _ (hC _ _ _ (PCw.of hFs)) (fun js hjs => ?_); subst hjs)); (try (conv => whnf))))
     refine hLP _ _ _ Nat (fun j => ⟨[(3, .imm (.sl 7 (row.map acv))), (4, .row 1 1), (5, .imm (.int .i64 (k : Nat))), (6, .imm (.int .i64 (j : Nat)))], [.dead 0, .row 57 7 1 ((out.map acv).map .imm)]⟩) (fun j => j ≤ out.length ∧ ∀ b ∈ out.take j, aheadB b a = true) (fun j => out.length - j) 0 ⟨Nat.zero_le _, by simp⟩ (qSL 2 rfl rfl) ?_
     rintro j ⟨hj, hall⟩
     have hfinish : ∀ (hh : j = out.length ∨ ∃ y, out[j]? = some y ∧ aheadB y a = false), insA a out = out.take j ++ a :: out.drop j := fun hh => by
       obtain ⟨h1, h2⟩ := tw_at (p := fun b => aheadB b a) hall hh
       unfold insA
       rw [h1, h2]
     have hhj := Nat.lt_or_ge j out.length
     cases hhj with
     | inl hjl =>
       obtain ⟨b, hb⟩ : ∃ b, out[j]? = some b := ⟨out[j], List.getElem?_eq_getElem hjl⟩
       have hAh := ahead_pc b a
       have hrb : ((out.map acv).map PV.imm)[j]? = some (.imm (acv b)) := by simp [hb]
       cases hab : aheadB b a with
       | true =>
         rw [hab] at hAh
         (try (conv => whnf)); (repeat ((first | refine qT ?_ | refine qF ?_ | refine qO ?_ | (with_reducible intro z hz); (first | (replace hz := hz (by omega); subst hz) | subst hz)); (try (conv => whnf))))
         refine Pos.mk j rfl (by omega) ?_
         (try (conv => whnf)); (repeat ((first | refine qT ?_ | refine qF ?_ | refine qO ?_ | (with_reducible intro z hz); (first | (replace hz := hz (by omega); subst hz) | subst hz)); (try (conv => whnf))))
         refine At.mk _ hrb ?_
         (try (conv => whnf)); (repeat ((first | refine qT ?_ | refine qF ?_ | refine qO ?_ | (with_reducible intro z hz); (first | (replace hz := hz (by omega); subst hz) | subst hz)); (try (conv => whnf))))
         refine Idx.mk k (acv a) _ rfl (by simp [ha]) rfl ?_
         (try (conv => whnf)); (repeat ((first | refine qT ?_ | refine qF ?_ | refine qO ?_ | (with_reducible intro z hz); (first | (replace hz := hz (by omega); subst hz) | subst hz) | (refine CallV.mk _ (hC _ _ _ (PCw.of hAh)) (fun js hjs => ?_); subst hjs)); (try (conv => whnf))))
         exact ⟨j + 1, ⟨by omega, fun x hx => by
           rw [take_at hb] at hx
           rcases List.mem_append.1 hx with hx | hx
           · exact hall x hx
           · obtain rfl := List.mem_singleton.1 hx; exact hab⟩, by dsimp only; omega, (qSL 2 rfl rfl)⟩
       | false =>
         rw [hab] at hAh
         have hins := hfinish (Or.inr ⟨b, hb, hab⟩)
         (try (conv => whnf)); (repeat ((first | refine qT ?_ | refine qF ?_ | refine qO ?_ | (with_reducible intro z hz); (first | (replace hz := hz (by omega); subst hz) | subst hz)); (try (conv => whnf))))
         refine Pos.mk j rfl (by omega) ?_
         (try (conv => whnf)); (repeat ((first | refine qT ?_ | refine qF ?_ | refine qO ?_ | (with_reducible intro z hz); (first | (replace hz := hz (by omega); subst hz) | subst hz)); (try (conv => whnf))))
         refine At.mk _ hrb ?_
         (try (conv => whnf)); (repeat ((first | refine qT ?_ | refine qF ?_ | refine qO ?_ | (with_reducible intro z hz); (first | (replace hz := hz (by omega); subst hz) | subst hz)); (try (conv => whnf))))
         refine Idx.mk k (acv a) _ rfl (by simp [ha]) rfl ?_
         (try (conv => whnf)); (repeat ((first | refine qT ?_ | refine qF ?_ | refine qO ?_ | (with_reducible intro z hz); (first | (replace hz := hz (by omega); subst hz) | subst hz) | (refine CallV.mk _ (hC _ _ _ (PCw.of hAh)) (fun js hjs => ?_); subst hjs)); (try (conv => whnf))))
         refine Idx.mk k (acv a) _ rfl (by simp [ha]) rfl ?_
         (try (conv => whnf)); (repeat ((first | refine qT ?_ | refine qF ?_ | refine qO ?_ | (with_reducible intro z hz); (first | (replace hz := hz (by omega); subst hz) | subst hz)); (try (conv => whnf))))
         exact ⟨k + 1, by omega, by dsimp only; omega, by
           dsimp only []
           rw [hst, hins]
           exact (WeakA.row 1 ((((out.take _ ++ a :: out.drop _).map acv).map .imm)) rfl (by exact ins_row out a _)).trans ((WeakA.row 3 ((((out.drop _).map acv).map .imm)) rfl (by exact drop_row out _)).trans ((WeakA.renew 1 1 rfl (by first | omega | (intro _; rw [hk0 _ _ rfl]; exact Nat.le_of_ble_eq_true rfl)) (by repeat (first | exact trivial | refine And.intro (rgL_imms _ _ _ _) ?_ | refine And.intro rfl ?_))).trans (qSL 2 rfl rfl)))⟩
     | inr hjg =>
       obtain rfl : j = out.length := by omega
       have hins := hfinish (Or.inl rfl)
       (try (conv => whnf)); (repeat ((first | refine qT ?_ | refine qF ?_ | refine qO ?_ | (with_reducible intro z hz); (first | (replace hz := hz (by omega); subst hz) | subst hz)); (try (conv => whnf))))
       refine Owe.mk ⟨by omega, by rw [List.length_nil]; unfold most; omega⟩ ?_
       (try (conv => whnf)); (repeat ((first | refine qT ?_ | refine qF ?_ | refine qO ?_ | (with_reducible intro z hz); (first | (replace hz := hz (by omega); subst hz) | subst hz)); (try (conv => whnf))))
       refine Idx.mk k (acv a) _ rfl (by simp [ha]) rfl ?_
       (try (conv => whnf)); (repeat ((first | refine qT ?_ | refine qF ?_ | refine qO ?_ | (with_reducible intro z hz); (first | (replace hz := hz (by omega); subst hz) | subst hz)); (try (conv => whnf))))
       exact ⟨k + 1, by omega, by dsimp only; omega, by
         dsimp only []
         rw [hst, hins]
         exact (WeakA.row 1 ((((out.take _ ++ a :: out.drop _).map acv).map .imm)) rfl (by exact ins_row out a _)).trans ((WeakA.row 3 ((((out.drop _).map acv).map .imm)) rfl (by exact drop_row out _)).trans ((WeakA.renew 1 1 rfl (by first | omega | (intro _; rw [hk0 _ _ rfl]; exact Nat.le_of_ble_eq_true rfl)) (by repeat (first | exact trivial | refine And.intro (rgL_imms _ _ _ _) ?_ | refine And.intro rfl ?_))).trans (qSL 2 rfl rfl)))⟩
   · have hst : actsK row (k + 1) = actsK row k := by
       rw [actsK, ha]
       dsimp only
       rw [if_neg (by unfold isF; simpa using hF)]
     generalize fstI row a.num = z at *
     (try (conv => whnf)); (repeat ((first | refine qT ?_ | refine qF ?_ | refine qO ?_ | (with_reducible intro z hz); (first | (replace hz := hz (by omega); subst hz) | subst hz)); (try (conv => whnf))))
     refine Idx.mk k (acv a) _ rfl (by simp [ha]) rfl ?_
     (try (conv => whnf)); (repeat ((first | refine qT ?_ | refine qF ?_ | refine qO ?_ | (with_reducible intro z hz); (first | (replace hz := hz (by omega); subst hz) | subst hz) | (refine CallV.mk _ (hC _ _ _ (PCw.of hFs)) (fun js hjs => ?_); subst hjs)); (try (conv => whnf))))
     exact ⟨k + 1, by omega, by dsimp only; omega, by
       dsimp only []
       rw [hst]
       exact (qSL 2 rfl rfl)⟩
 | inr hge =>
   obtain rfl : k = row.length := by omega
   (try (conv => whnf)); (repeat ((first | refine qT ?_ | refine qF ?_ | refine qO ?_ | (with_reducible intro z hz); (first | (replace hz := hz (by omega); subst hz) | subst hz)); (try (conv => whnf))))
   refine Imms.mk ((actsK row row.length).map acv) rfl ?_
   (try (conv => whnf)); (repeat ((first | refine qT ?_ | refine qF ?_ | refine qO ?_ | (with_reducible intro z hz); (first | (replace hz := hz (by omega); subst hz) | subst hz)); (try (conv => whnf))))
   exact hfin _ (ILes.refl _)
end Go.Proofs.Ytglkpmhamekpmaa.Po
