/-
  Corpus: the law of what is known since when. Corpus: what one gazette more changes (of no program but for the names). Corpus: the numbers of acts that occur more than once, by the reference. Corpus: the law of the gazettes' order.
-/
import Derived.Test.YtglkpmhamekpmaaWDk
namespace Go.Proofs.Ytglkpmhamekpmaa.Po
open Go Go.Pv Go.RowKit
set_option linter.unusedSimpArgs false
open Lab Lcs Go.Proofs.Ytglkpmhamekpmaa Go.Proofs.Ytglkpmhamekpmaa.Pu
set_option maxRecDepth 10000
set_option maxHeartbeats 32000000
end Go.Proofs.Ytglkpmhamekpmaa.Po
namespace Go.Proofs.Ytglkpmhamekpmaa.Po
open Go Go.Pv Go.RowKit
set_option linter.unusedSimpArgs false
open Lab Lcs Go.Proofs.Ytglkpmhamekpmaa Go.Proofs.Ytglkpmhamekpmaa.Pu
set_option maxRecDepth 10000
def nmI (n i : Int) (x : It) : Bool := decide (x.kind = 11) && decide (x.a = n) && decide (x.i = i)
def nmA (n i : Int) (a : Ac) : Bool := a.items.any (nmI n i)
def nmG (n i : Int) (g : Gz) : Bool := g.acts.any (nmA n i)
theorem cors_addI {m : CorM} {d : Ei} {n i : Int} (h : nmI n i d.it = false) : lookL (addI m d) (n, i) = lookL m (n, i) := by
 unfold addI
 split
 · rename_i hc
   have hne : ¬ refE d = (n, i) := fun e => by
     unfold refE at e
     injection e with e1 e2
     have hk : d.it.kind = 11 := by
       unfold isC at hc
       rw [Bool.and_eq_true, decide_eq_true_eq] at hc
       exact hc.1
     unfold nmI at h
     rw [decide_eq_true hk, decide_eq_true e1, decide_eq_true e2] at h
     cases h
   unfold addC
   split
   · rw [lookL_put, if_neg hne]
   · split
     · rw [lookL_put, if_neg hne]
     · rfl
 · rfl
theorem cors_fold {n i : Int} : ∀ (l : List Ei) {m : CorM}, (∀ d ∈ l, nmI n i d.it = false) → lookL (l.foldl addI m) (n, i) = lookL m (n, i)
 | [], _, _ => rfl
 | d :: l, m, h => by
   rw [List.foldl_cons, cors_fold l fun e he => h e (List.mem_cons_of_mem _ he), cors_addI (h d List.mem_cons_self)]
theorem cors_addA {r : Rg} {a : Ac} {n i : Int} (h : nmA n i a = false) : lookL (addA r a).cors (n, i) = lookL r.cors (n, i) := by
 unfold addA
 split
 · rfl
 · dsimp only
   refine cors_fold _ fun d hd => ?_
   obtain ⟨k, x, hx, rfl⟩ := eiA_mem hd
   unfold nmA at h
   rw [List.any_eq_false] at h
   simpa using h x (List.mem_of_getElem? hx)
theorem cors_acts {n i : Int} : ∀ (l : List Ac) {r : Rg}, l.any (nmA n i) = false → lookL (l.foldl addA r).cors (n, i) = lookL r.cors (n, i)
 | [], _, _ => rfl
 | a :: l, r, h => by
   rw [List.any_cons, Bool.or_eq_false_iff] at h
   rw [List.foldl_cons, cors_acts l h.2, cors_addA h.1]
theorem regO_snoc (l : List Gz) (g : Gz) : regO (l ++ [g]) = addG (regO l) g := by
 unfold regO
 rw [List.foldl_append]
 rfl
theorem mono_find {l : List Gz} {g : Gz} {n i : Int} {d : Ei} (h : findR (regO l) n i = some d) : ∃ x, findR (regO (l ++ [g])) n i = some x ∧ x.day = d.day ∧ (nmG n i g = false → x = d) := by
 have h0 := h
 have ht : l = (l ++ [g]).take l.length := by rw [List.take_left]
 have hp : ∃ x, findR (regO (l ++ [g])) n i = some x ∧ d.act = x.act ∧ d.item = x.item ∧ d.day = x.day := findR_pre (k := l.length) (by rw [← ht]; exact h)
 obtain ⟨x, hx, h1, h2, h3⟩ := hp
 refine ⟨x, hx, h3.symm, fun hn => ?_⟩
 obtain ⟨a, g1, g2, g3, g4, g5, g6⟩ := findR_some h
 have hm : lookL (regO (l ++ [g])).acts n = some a := acts_mono (k := l.length) (by rw [← ht]; exact g1)
 have hc : lookL (regO (l ++ [g])).cors (a.num, i) = lookL (regO l).cors (a.num, i) ∨ a.num ≠ n := by
   by_cases e : a.num = n
   · left
     rw [e, regO_snoc]
     exact cors_acts g.acts hn
   · right; exact e
 have hk : a.num = n := by
   have := (good_all (Q := fun _ => True) l _ (fun _ _ _ _ => trivial) good_nil).key _ (lookL_mem g1)
   exact this.symm
 have hc := hc.resolve_right (fun e => e hk)
 unfold findR at h0 hx
 rw [g1] at h0
 rw [hm] at hx
 dsimp only at h0 hx
 rw [if_pos g5, List.getElem?_eq_getElem g6] at h0 hx
 dsimp only at h0 hx
 have hcf : corF (regO (l ++ [g])).cors a.num i a.items[i.toNat] = corF (regO l).cors a.num i a.items[i.toNat] := by
   unfold corF
   rw [hc]
 rw [hcf] at hx
 rw [h0] at hx
 injection hx with hx
 exact hx.symm
end Go.Proofs.Ytglkpmhamekpmaa.Po
namespace Go.Proofs.Ytglkpmhamekpmaa.Po
open Go Go.Pv Go.RowKit
set_option linter.unusedSimpArgs false
open Lab Lcs Go.Proofs.Ytglkpmhamekpmaa Go.Proofs.Ytglkpmhamekpmaa.Pu
set_option maxRecDepth 10000
set_option maxHeartbeats 32000000
def lessZ (x y : Int) : Bool := decide (y < x)
def insZ (x : Int) (out : List Int) : List Int := if (out.dropWhile (lessZ x)).head? = some x then out else out.takeWhile (lessZ x) ++ x :: out.dropWhile (lessZ x)
def twK (row : List Ac) : Nat → List Int
 | 0 => []
 | k + 1 => match row[k]? with
   | some a => if isF row k a = true then twK row k else insZ a.num (twK row k)
   | none => twK row k
def twR (row : List Ac) : List Int := twK row row.length
theorem insZ_len (x : Int) (out : List Int) : (insZ x out).length ≤ out.length + 1 := by
 unfold insZ
 split
 · omega
 · have := congrArg List.length (List.takeWhile_append_dropWhile (p := lessZ x) (l := out))
   rw [List.length_append] at this
   rw [List.length_append, List.length_cons]; omega
theorem twK_len (row : List Ac) : ∀ k, (twK row k).length ≤ k
 | 0 => by simp [twK]
 | k + 1 => by
   have := twK_len row k
   unfold twK
   split
   · split
     · omega
     · rename_i a _ _
       have := insZ_len a.num (twK row k)
       omega
   · omega
theorem insZ_row (out : List Int) (x : Int) (j : Nat) : ((out.map kI).map PV.imm).take j ++ [PV.imm (kI x)] ++ (((out.map kI).map PV.imm).drop j).take (((out.map kI).map PV.imm).length - j) = ((out.take j ++ x :: out.drop j).map kI).map PV.imm := by
 rw [List.take_of_length_le (l := ((out.map kI).map PV.imm).drop j) (by simp)]
 simp [List.map_take, List.map_drop]
theorem dropZ_row (out : List Int) (j : Nat) : [] ++ (((out.map kI).map PV.imm).drop j).take (((out.map kI).map PV.imm).length - j) = ((out.drop j).map kI).map PV.imm := by
 rw [List.take_of_length_le (l := ((out.map kI).map PV.imm).drop j) (by simp)]
 simp [List.map_drop]
theorem twice_pc (l : List Gz) (hl : l.length ≤ 1000) (hg : ∀ g ∈ l, g.acts.length ≤ 1000) : PC Try.prog env0 45 [.sl 4 (l.map gzv)] [.sl 1 ((twR (allA l)).map kI)] := by
 have hAl := all_pc l hl hg
 have hln := allA_len l hg
 unfold twR
 generalize allA l = row at *
 have hml : (row.map acv).length = row.length := List.length_map _
 refine PC.of_va (T := tb0) eqs_ok tb_ok rfl mixed Try.func45 rfl rfl (Nat.le_of_ble_eq_true rfl) ?_; intro Γ C WK LP fin h0 hW hC hB hR hLP hfin
 (try (conv => whnf)); (repeat ((first | refine qT ?_ | refine qF ?_ | refine qO ?_ | (with_reducible intro z hz); (first | (replace hz := hz (by omega); subst hz) | subst hz) | (refine CallV.mk _ (hC _ _ _ (PCw.of hAl)) (fun js hjs => ?_); subst hjs)); (try (conv => whnf))))
 refine hLP _ _ _ Nat (fun k => ⟨[(3, .imm (.sl 7 (row.map acv))), (4, .row 1 1), (5, .imm (.int .i64 (k : Nat)))], [.dead 0, .row 3 1 1 (((twK row k).map kI).map .imm)]⟩) (fun k => k ≤ row.length) (fun k => row.length - k) 0 (Nat.zero_le _) ((WeakA.row 1 ((((twK row 0).map kI).map .imm)) rfl (by rfl)).trans (qSL 2 rfl rfl)) ?_
 intro k hk
 have hho := Nat.lt_or_ge k row.length
 cases hho with
 | inl hlt =>
   refine (?_ : ∀ Q : Exit → AS → Prop, vcS _ _ _ _ _ _ _ (loopQA _ _ _ _ _ _ Q)) _; intro Q
   obtain ⟨a, ha⟩ : ∃ a, row[k]? = some a := ⟨row[k], List.getElem?_eq_getElem hlt⟩
   have hFs := fst_pc row a.num (by omega)
   have hkl := twK_len row k
   by_cases hF : fstI row a.num = (k : Int)
   · have hst : twK row (k + 1) = twK row k := by
       rw [twK, ha]
       dsimp only
       rw [if_pos (by unfold isF; simpa using hF)]
     rw [hF] at hFs
     (try (conv => whnf)); (repeat ((first | refine qT ?_ | refine qF ?_ | refine qO ?_ | (with_reducible intro z hz); (first | (replace hz := hz (by omega); subst hz) | subst hz)); (try (conv => whnf))))
     refine Idx.mk k (acv a) _ rfl (by simp [ha]) rfl ?_
     (try (conv => whnf)); (repeat ((first | refine qT ?_ | refine qF ?_ | refine qO ?_ | (with_reducible intro z hz); (first | (replace hz := hz (by omega); subst hz) | subst hz) | (refine CallV.mk _ (hC _ _ _ (PCw.of hFs)) (fun js hjs => ?_); subst hjs)); (try (conv => whnf))))
     exact ⟨k + 1, by omega, by dsimp only; omega, by
       dsimp only []
       rw [hst]
       exact (qSL 2 rfl rfl)⟩
   · have hst : twK row (k + 1) = insZ a.num (twK row k) := by
       rw [twK, ha]
       dsimp only
       rw [if_neg (by unfold isF; simpa using hF)]
     generalize fstI row a.num = z at *
     generalize twK row k = out at *
     have hol : ((out.map kI).map PV.imm).length = out.length := by simp
     (try (conv => whnf)); (repeat ((first | refine qT ?_ | refine qF ?_ | refine qO ?_ | (with_reducible intro z hz); (first | (replace hz := hz (by omega); subst hz) | subst hz)); (try (conv => whnf))))
     refine Idx.mk k (acv a) _ rfl (by simp [ha]) rfl ?_
     (try (conv => whnf)); (repeat ((first | refine qT ?_ | refine qF ?_ | refine qO ?_ | (with_reducible intro z hz); (first | (replace hz := hz (by omega); subst hz) | subst hz) | (refine CallV.mk _ (hC _ _ _ (PCw.of hFs)) (fun js hjs => ?_); subst hjs)); (try (conv => whnf))))
     refine hLP _ _ _ Nat (fun j => ⟨[(3, .imm (.sl 7 (row.map acv))), (4, .row 1 1), (5, .imm (.int .i64 (k : Nat))), (6, .imm (.int .i64 (j : Nat)))], [.dead 0, .row 3 1 1 ((out.map kI).map .imm)]⟩) (fun j => j ≤ out.length ∧ ∀ b ∈ out.take j, lessZ a.num b = true) (fun j => out.length - j) 0 ⟨Nat.zero_le _, by simp⟩ (qSL 2 rfl rfl) ?_
     rintro j ⟨hj, hall⟩
     have hfinish : ∀ (hh : j = out.length ∨ ∃ y, out[j]? = some y ∧ lessZ a.num y = false), insZ a.num out = if out[j]? = some a.num then out else out.take j ++ a.num :: out.drop j := fun hh => by
       obtain ⟨h1, h2⟩ := tw_at (p := lessZ a.num) hall hh
       unfold insZ
       rw [h1, h2, List.head?_drop]
     have hhj := Nat.lt_or_ge j out.length
     cases hhj with
     | inl hjl =>
       obtain ⟨b, hb⟩ : ∃ b, out[j]? = some b := ⟨out[j], List.getElem?_eq_getElem hjl⟩
       have hrb : ((out.map kI).map PV.imm)[j]? = some (.imm (kI b)) := by simp [hb]
       unfold kI at hrb
       by_cases hab : b < a.num
       · (try (conv => whnf)); (repeat ((first | refine qT ?_ | refine qF ?_ | refine qO ?_ | (with_reducible intro z hz); (first | (replace hz := hz (by omega); subst hz) | subst hz)); (try (conv => whnf))))
         refine Pos.mk j rfl (by omega) ?_
         (try (conv => whnf)); (repeat ((first | refine qT ?_ | refine qF ?_ | refine qO ?_ | (with_reducible intro z hz); (first | (replace hz := hz (by omega); subst hz) | subst hz)); (try (conv => whnf))))
         refine At.mk _ hrb ?_
         (try (conv => whnf)); (repeat ((first | refine qT ?_ | refine qF ?_ | refine qO ?_ | (with_reducible intro z hz); (first | (replace hz := hz (by omega); subst hz) | subst hz)); (try (conv => whnf))))
         refine Idx.mk k (acv a) _ rfl (by simp [ha]) rfl ?_
         (try (conv => whnf)); (repeat ((first | refine qT ?_ | refine qF ?_ | refine qO ?_ | (with_reducible intro z hz); (first | (replace hz := hz (by omega); subst hz) | subst hz)); (try (conv => whnf))))
         exact ⟨j + 1, ⟨by omega, fun x hx => by
           rw [take_at hb] at hx
           rcases List.mem_append.1 hx with hx | hx
           · exact hall x hx
           · obtain rfl := List.mem_singleton.1 hx; exact decide_eq_true hab⟩, by dsimp only; omega, (qSL 2 rfl rfl)⟩
       · have hins := hfinish (Or.inr ⟨b, hb, decide_eq_false hab⟩)
         by_cases hbe : b = a.num
         · rw [if_pos (by rw [hb, hbe])] at hins
           (try (conv => whnf)); (repeat ((first | refine qT ?_ | refine qF ?_ | refine qO ?_ | (with_reducible intro z hz); (first | (replace hz := hz (by omega); subst hz) | subst hz)); (try (conv => whnf))))
           refine Pos.mk j rfl (by omega) ?_
           (try (conv => whnf)); (repeat ((first | refine qT ?_ | refine qF ?_ | refine qO ?_ | (with_reducible intro z hz); (first | (replace hz := hz (by omega); subst hz) | subst hz)); (try (conv => whnf))))
           refine At.mk _ hrb ?_
           (try (conv => whnf)); (repeat ((first | refine qT ?_ | refine qF ?_ | refine qO ?_ | (with_reducible intro z hz); (first | (replace hz := hz (by omega); subst hz) | subst hz)); (try (conv => whnf))))
           refine Idx.mk k (acv a) _ rfl (by simp [ha]) rfl ?_
           (try (conv => whnf)); (repeat ((first | refine qT ?_ | refine qF ?_ | refine qO ?_ | (with_reducible intro z hz); (first | (replace hz := hz (by omega); subst hz) | subst hz)); (try (conv => whnf))))
           refine Pos.mk j rfl (by omega) ?_
           (try (conv => whnf)); (repeat ((first | refine qT ?_ | refine qF ?_ | refine qO ?_ | (with_reducible intro z hz); (first | (replace hz := hz (by omega); subst hz) | subst hz)); (try (conv => whnf))))
           refine At.mk _ hrb ?_
           (try (conv => whnf)); (repeat ((first | refine qT ?_ | refine qF ?_ | refine qO ?_ | (with_reducible intro z hz); (first | (replace hz := hz (by omega); subst hz) | subst hz)); (try (conv => whnf))))
           refine Idx.mk k (acv a) _ rfl (by simp [ha]) rfl ?_
           (try (conv => whnf)); (repeat ((first | refine qT ?_ | refine qF ?_ | refine qO ?_ | (with_reducible intro z hz); (first | (replace hz := hz (by omega); subst hz) | subst hz)); (try (conv => whnf))))
           exact ⟨k + 1, by omega, by dsimp only; omega, by
             dsimp only []
             rw [hst, hins]
             exact (qSL 2 rfl rfl)⟩
         · rw [if_neg (by rw [hb]; simpa using hbe)] at hins
           (try (conv => whnf)); (repeat ((first | refine qT ?_ | refine qF ?_ | refine qO ?_ | (with_reducible intro z hz); (first | (replace hz := hz (by omega); subst hz) | subst hz)); (try (conv => whnf))))
           refine Pos.mk j rfl (by omega) ?_
           (try (conv => whnf)); (repeat ((first | refine qT ?_ | refine qF ?_ | refine qO ?_ | (with_reducible intro z hz); (first | (replace hz := hz (by omega); subst hz) | subst hz)); (try (conv => whnf))))
           refine At.mk _ hrb ?_
           (try (conv => whnf)); (repeat ((first | refine qT ?_ | refine qF ?_ | refine qO ?_ | (with_reducible intro z hz); (first | (replace hz := hz (by omega); subst hz) | subst hz)); (try (conv => whnf))))
           refine Idx.mk k (acv a) _ rfl (by simp [ha]) rfl ?_
           (try (conv => whnf)); (repeat ((first | refine qT ?_ | refine qF ?_ | refine qO ?_ | (with_reducible intro z hz); (first | (replace hz := hz (by omega); subst hz) | subst hz)); (try (conv => whnf))))
           refine Pos.mk j rfl (by omega) ?_
           (try (conv => whnf)); (repeat ((first | refine qT ?_ | refine qF ?_ | refine qO ?_ | (with_reducible intro z hz); (first | (replace hz := hz (by omega); subst hz) | subst hz)); (try (conv => whnf))))
           refine At.mk _ hrb ?_
           (try (conv => whnf)); (repeat ((first | refine qT ?_ | refine qF ?_ | refine qO ?_ | (with_reducible intro z hz); (first | (replace hz := hz (by omega); subst hz) | subst hz)); (try (conv => whnf))))
           refine Idx.mk k (acv a) _ rfl (by simp [ha]) rfl ?_
           (try (conv => whnf)); (repeat ((first | refine qT ?_ | refine qF ?_ | refine qO ?_ | (with_reducible intro z hz); (first | (replace hz := hz (by omega); subst hz) | subst hz)); (try (conv => whnf))))
           refine Idx.mk k (acv a) _ rfl (by simp [ha]) rfl ?_
           (try (conv => whnf)); (repeat ((first | refine qT ?_ | refine qF ?_ | refine qO ?_ | (with_reducible intro z hz); (first | (replace hz := hz (by omega); subst hz) | subst hz)); (try (conv => whnf))))
           exact ⟨k + 1, by omega, by dsimp only; omega, by
             dsimp only []
             rw [hst, hins]
             exact (WeakA.row 1 ((((out.take _ ++ a.num :: out.drop _).map kI).map .imm)) rfl (by exact insZ_row out a.num _)).trans ((WeakA.row 2 ((((out.drop _).map kI).map .imm)) rfl (by exact dropZ_row out _)).trans ((WeakA.renew 1 1 rfl (by first | omega | (intro _; rw [hk0 _ _ rfl]; exact Nat.le_of_ble_eq_true rfl)) (by repeat (first | exact trivial | refine And.intro (rgL_imms _ _ _ _) ?_ | refine And.intro rfl ?_))).trans (qSL 2 rfl rfl)))⟩
     | inr hjg =>
       obtain rfl : j = out.length := by omega
       have hins := hfinish (Or.inl rfl)
       rw [if_neg (by rw [List.getElem?_eq_none (Nat.le_refl _)]; simp)] at hins
       (try (conv => whnf)); (repeat ((first | refine qT ?_ | refine qF ?_ | refine qO ?_ | (with_reducible intro z hz); (first | (replace hz := hz (by omega); subst hz) | subst hz)); (try (conv => whnf))))
       refine Owe.mk ⟨by omega, by rw [List.length_nil]; unfold most; omega⟩ ?_
       (try (conv => whnf)); (repeat ((first | refine qT ?_ | refine qF ?_ | refine qO ?_ | (with_reducible intro z hz); (first | (replace hz := hz (by omega); subst hz) | subst hz)); (try (conv => whnf))))
       refine Idx.mk k (acv a) _ rfl (by simp [ha]) rfl ?_
       (try (conv => whnf)); (repeat ((first | refine qT ?_ | refine qF ?_ | refine qO ?_ | (with_reducible intro z hz); (first | (replace hz := hz (by omega); subst hz) | subst hz)); (try (conv => whnf))))
       exact ⟨k + 1, by omega, by dsimp only; omega, by
         dsimp only []
         rw [hst, hins]
         exact (WeakA.row 1 ((((out.take _ ++ a.num :: out.drop _).map kI).map .imm)) rfl (by exact insZ_row out a.num _)).trans ((WeakA.row 2 ((((out.drop _).map kI).map .imm)) rfl (by exact dropZ_row out _)).trans ((WeakA.renew 1 1 rfl (by first | omega | (intro _; rw [hk0 _ _ rfl]; exact Nat.le_of_ble_eq_true rfl)) (by repeat (first | exact trivial | refine And.intro (rgL_imms _ _ _ _) ?_ | refine And.intro rfl ?_))).trans (qSL 2 rfl rfl)))⟩
 | inr hge =>
   obtain rfl : k = row.length := by omega
   (try (conv => whnf)); (repeat ((first | refine qT ?_ | refine qF ?_ | refine qO ?_ | (with_reducible intro z hz); (first | (replace hz := hz (by omega); subst hz) | subst hz)); (try (conv => whnf))))
   refine Imms.mk ((twK row row.length).map kI) rfl ?_
   (try (conv => whnf)); (repeat ((first | refine qT ?_ | refine qF ?_ | refine qO ?_ | (with_reducible intro z hz); (first | (replace hz := hz (by omega); subst hz) | subst hz)); (try (conv => whnf))))
   exact hfin _ (ILes.refl _)
end Go.Proofs.Ytglkpmhamekpmaa.Po
namespace Go.Proofs.Ytglkpmhamekpmaa.Po
open Go Go.Pv Go.RowKit
set_option linter.unusedSimpArgs false
open Lab Lcs Go.Proofs.Ytglkpmhamekpmaa Go.Proofs.Ytglkpmhamekpmaa.Pu
set_option maxRecDepth 10000
set_option maxHeartbeats 32000000
open Go.Proofs (ltOf)
theorem insZ_ne (x : Int) (out : List Int) : insZ x out ≠ [] := by
 unfold insZ
 split
 · rename_i h
   intro e
   rw [e] at h
   simp at h
 · simp
theorem twK_nil {row : List Ac} : ∀ {k : Nat}, k ≤ row.length → twK row k = [] → ∀ j a, j < k → row[j]? = some a → isF row j a = true
 | 0, _, _, j, _, hj, _ => by omega
 | k + 1, hk, h, j, a, hj, ha => by
   obtain ⟨b, hb⟩ : ∃ b, row[k]? = some b := ⟨row[k], List.getElem?_eq_getElem (by omega)⟩
   rw [twK, hb] at h
   dsimp only at h
   split at h
   · rename_i hf
     by_cases e : j = k
     · subst e
       rw [hb] at ha
       injection ha with ha
       rw [← ha]
       exact hf
     · exact twK_nil (by omega) h j a (by omega) ha
   · exact absurd h (insZ_ne _ _)
theorem isF_nodup {row : List Ac} (h : ∀ j a, j < row.length → row[j]? = some a → isF row j a = true) : (row.map Ac.num).Nodup := by
 rw [List.nodup_iff_pairwise_ne, List.pairwise_map, List.pairwise_iff_getElem]
 intro i j hi hj hij
 have h1 := (isF_iff (List.getElem?_eq_getElem hj)).1 (h j _ hj (List.getElem?_eq_getElem hj))
 exact h1 _ (List.mem_take_iff_getElem.2 ⟨i, by omega, rfl⟩)
theorem nodup_isF {row : List Ac} (h : (row.map Ac.num).Nodup) : ∀ j a, row[j]? = some a → isF row j a = true := by
 intro j a ha
 rw [isF_iff ha]
 intro b hb
 rw [List.nodup_iff_pairwise_ne, List.pairwise_map, List.pairwise_iff_getElem] at h
 obtain ⟨i, hi, rfl⟩ := List.mem_take_iff_getElem.1 hb
 obtain ⟨hj, rfl⟩ := List.getElem?_eq_some_iff.1 ha
 exact h i j (by omega) hj (by omega)
theorem actsK_all {row : List Ac} (h : (row.map Ac.num).Nodup) : ∀ k, k ≤ row.length → (actsK row k).Perm (row.take k)
 | 0, _ => by simp [actsK]
 | k + 1, hk => by
   obtain ⟨a, ha⟩ : ∃ a, row[k]? = some a := ⟨row[k], List.getElem?_eq_getElem (by omega)⟩
   have ih := actsK_all h k (by omega)
   rw [actsK, ha]
   dsimp only
   rw [if_pos (nodup_isF h k a ha), take_at ha]
   exact (insA_perm a _).trans ((ih.cons a).trans (List.perm_append_singleton a (row.take k)).symm)
theorem actsR_perm {row row' : List Ac} (hp : row'.Perm row) (h : (row.map Ac.num).Nodup) : actsR row' = actsR row := by
 have h' : (row'.map Ac.num).Nodup := ((hp.map Ac.num).nodup_iff).2 h
 have p1 := actsK_all h row.length (Nat.le_refl _)
 have p2 := actsK_all h' row'.length (Nat.le_refl _)
 rw [List.take_length] at p1 p2
 have s1 := actsK_sorted row row.length (Nat.le_refl _)
 have s2 := actsK_sorted row' row'.length (Nat.le_refl _)
 exact actsA_uniq (p2.trans (hp.trans p1.symm)) s1 (s2.imp fun hlt => by
   rw [ltAc_no]
   unfold ltA at *
   omega)
theorem deeds_same {l m : List Gz} (hp : m.Perm l) (h : twR (allA l) = []) : deeds m = deeds l := by
 have hn := isF_nodup (twK_nil (Nat.le_refl _) h)
 have : actsR (allA m) = actsR (allA l) := actsR_perm (by unfold allA; exact List.Perm.flatMap_right _ hp) hn
 unfold deeds
 rw [this]
theorem once_pc (l : List Gz) (hl : l.length ≤ 1000) (hg : ∀ g ∈ l, g.acts.length ≤ 1000) : PC Try.prog env0 23 [.sl 4 (l.map gzv)] [.bool (decide (twR (allA l) = []))] := by
 have hT := twice_pc l hl hg
 cases hw : twR (allA l) with
 | nil =>
   rw [hw] at hT
   rw [decide_eq_true rfl]
   refine PC.of_va (T := tbr0) eqs_ok tbr_ok rfl mixed Try.func23 rfl rfl (Nat.le_of_ble_eq_true rfl) ?_; intro Γ C WK LP fin h0 hW hC hB hR hLP hfin
   (try (conv => whnf)); (repeat ((first | refine qT ?_ | refine qF ?_ | refine qO ?_ | (with_reducible intro z hz); (first | (replace hz := hz (by omega); subst hz) | subst hz) | (refine CallV.mk _ (hC _ _ _ (PCw.of hT)) (fun js hjs => ?_); subst hjs)); (try (conv => whnf))))
   exact hfin _ (ILes.refl _)
 | cons z r =>
   rw [hw] at hT
   rw [decide_eq_false (by simp)]
   have hml : ((z :: r).map kI).length = r.length + 1 := by simp
   refine PC.of_va (T := tbr0) eqs_ok tbr_ok rfl mixed Try.func23 rfl rfl (Nat.le_of_ble_eq_true rfl) ?_; intro Γ C WK LP fin h0 hW hC hB hR hLP hfin
   (try (conv => whnf)); (repeat ((first | refine qT ?_ | refine qF ?_ | refine qO ?_ | (with_reducible intro z hz); (first | (replace hz := hz (by omega); subst hz) | subst hz) | (refine CallV.mk _ (hC _ _ _ (PCw.of hT)) (fun js hjs => ?_); subst hjs)); (try (conv => whnf))))
   exact hfin _ (ILes.refl _)
def rotG (l : List Gz) (n : Nat) : List Gz := l.drop n ++ l.take n
theorem rotG_len (l : List Gz) (n : Nat) : (rotG l n).length = l.length := by
 unfold rotG
 rw [List.length_append, List.length_drop, List.length_take]
 omega
theorem rotG_perm (l : List Gz) (n : Nat) : (rotG l n).reverse.Perm l := by
 refine (List.reverse_perm _).trans ?_
 unfold rotG
 exact List.perm_append_comm.trans (by rw [List.take_append_drop])
theorem rotG_at {l : List Gz} {n i : Nat} (hn : n < l.length) (hi : i < l.length) : ∃ (k : Nat) (g : Gz), l[k]? = some g ∧ (rotG l n)[i]? = some g ∧ ((i : Int) + (n : Int)).tmod (l.length : Nat) = (k : Int) := by
 by_cases h : i + n < l.length
 · refine ⟨i + n, l[i + n], List.getElem?_eq_getElem h, ?_, ?_⟩
   · unfold rotG
     rw [List.getElem?_append_left (by rw [List.length_drop]; omega), List.getElem?_drop, show n + i = i + n by omega]
     exact List.getElem?_eq_getElem h
   · rw [show (i : Int) + (n : Int) = ((i + n : Nat) : Int) by omega, ← Int.ofNat_tmod, Nat.mod_eq_of_lt h]
 · have hk : i + n - l.length < l.length := by omega
   refine ⟨i + n - l.length, l[i + n - l.length], List.getElem?_eq_getElem hk, ?_, ?_⟩
   · unfold rotG
     rw [List.getElem?_append_right (by rw [List.length_drop]; omega), List.length_drop, List.getElem?_take_of_lt (by omega), show i - (l.length - n) = i + n - l.length by omega]
     exact List.getElem?_eq_getElem hk
   · rw [show (i : Int) + (n : Int) = ((i + n : Nat) : Int) by omega, ← Int.ofNat_tmod, Nat.mod_eq_sub_mod (by omega), Nat.mod_eq_of_lt hk]
end Go.Proofs.Ytglkpmhamekpmaa.Po
