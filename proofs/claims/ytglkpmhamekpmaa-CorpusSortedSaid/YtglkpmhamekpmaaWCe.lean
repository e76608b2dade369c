/-
  Corpus: the register of gazettes.
-/
import Derived.Test.YtglkpmhamekpmaaWCd
namespace Go.Proofs.Ytglkpmhamekpmaa.Po
open Go Go.Pv Go.RowKit
set_option linter.unusedSimpArgs false
open Lab Lcs Go.Proofs.Ytglkpmhamekpmaa Go.Proofs.Ytglkpmhamekpmaa.Pu
set_option maxRecDepth 10000
set_option maxHeartbeats 32000000
structure Gz where
 num : Int
 day : Int
 prior : Str
 acts : List Ac
def gzv (g : Gz) : IV := .agg [.int .i64 g.num, .int .i64 g.day, .str g.prior, .sl 7 (g.acts.map acv)]
abbrev AcM := List (Int × Ac)
structure Rg where
 acts : AcM
 reps : List (Int × Bool)
 cors : CorM
def kI (n : Int) : IV := .int .i64 n
theorem eqI_kI (a b : Int) : eqI (kI a) (kI b) = decide (a = b) := rfl
def addI (m : CorM) (d : Ei) : CorM := if isC d.it = true then addC m d else m
def addA (r : Rg) (a : Ac) : Rg := match lookL r.acts a.num with
 | some _ => ⟨r.acts, putL r.reps a.num true, r.cors⟩
 | none => ⟨putL r.acts a.num a, r.reps, (eiA a).foldl addI r.cors⟩
def addG (r : Rg) (g : Gz) : Rg := g.acts.foldl addA r
def regO (l : List Gz) : Rg := l.foldl addG ⟨[], [], []⟩
abbrev rgB (r : Rg) : List Blk := [.map (.int .i64) 1 (mkL kI acv r.acts), .map (.int .i64) 1 (mkL kI IV.bool r.reps), .map kkC 1 (mkL kv2 eiv r.cors)]
abbrev rgC (r : Rg) : List CBk := [.map (.int .i64) 1 (mkL kI acv r.acts), .map (.int .i64) 1 (mkL kI IV.bool r.reps), .map kkC 1 (mkL kv2 eiv r.cors)]
theorem addA_take {l : List Ac} {k : Nat} {x : Ac} (hx : l[k]? = some x) (r : Rg) : (l.take (k + 1)).foldl addA r = addA ((l.take k).foldl addA r) x := by
 rw [take_at hx, List.foldl_append, List.foldl_cons, List.foldl_nil]
theorem addI_take {n d : Int} {l : List It} {k : Nat} {x : It} (hx : l[k]? = some x) (m : CorM) : (eisL n d 0 (l.take (k + 1))).foldl addI m = addI ((eisL n d 0 (l.take k)).foldl addI m) ⟨n, (k : Nat), d, x⟩ := by
 rw [eisL_take hx, List.foldl_append, List.foldl_cons, List.foldl_nil]
theorem look_act (m : AcM) (n : Int) : lookM (mkL kI acv m) (.int .i64 n) = (lookL m n).map acv := look_mkL eqI_kI n m
def acvZ : IV := .agg [.int .i64 0, .str ⟨#[]⟩, .int .i64 0, .int .i64 0, .int .i64 0, .str ⟨#[]⟩, .nil]
def SmA (a : Ac) : Prop := a.items.length ≤ 1000000
abbrev bxG (g : Gz) : Blk := .box 1 [.imm (.int .i64 g.num), .imm (.int .i64 g.day), .imm (.str g.prior), .imm (.sl 7 (g.acts.map acv))]
abbrev bxR : Blk := .box 1 [.row 0 1, .row 1 1, .row 2 1]
abbrev bxA (a : Ac) : Blk := .box 1 [.imm (.int .i64 a.num), .imm (.str a.title), .imm (.int .i64 a.day), .imm (.int .i64 a.sk), .imm (.int .i64 a.sd), .imm (.str a.se), .imm (.sl 25 (a.items.map itv))]
abbrev bxZ : Blk := .box 1 [.imm (.int .i64 0), .imm (.str ⟨#[]⟩), .imm (.int .i64 0), .imm (.int .i64 0), .imm (.int .i64 0), .imm (.str ⟨#[]⟩), .imm .nil]
theorem add_pcb (r : Rg) (g : Gz) (hl : g.acts.length ≤ 1000000) (hA : ∀ a ∈ g.acts, SmA a) : PCB Try.prog env0 37 [.agg [.row 0 1, .row 1 1, .row 2 1], .imm (gzv g)] (rgB r) [] (rgB (addG r g)) := by
 have hml : (g.acts.map acv).length = g.acts.length := List.length_map _
 unfold gzv addG
 refine PCB.of_va (T := tb0) eqs_ok tb_ok rfl mixed Try.func37 rfl rfl rfl (Nat.le_of_ble_eq_true rfl) rfl ?_; intro Γ C WK LP fin h0 hk0 hW hC hB hR hLP hfin
 have h03 : Γ.n0 = 3 := h0
 (try (conv => whnf)); (repeat ((first | refine qT ?_ | refine qF ?_ | refine qO ?_ | (with_reducible intro z hz); (first | (replace hz := hz (by omega); subst hz) | subst hz)); (try (conv => whnf))))
 refine hLP _ _ _ Nat (fun k => ⟨[(2, .ptr 3 1 0), (11, .imm (.sl 7 (g.acts.map acv))), (12, .imm (.int .i64 (g.acts.length : Nat))), (13, .imm (.int .i64 (k : Nat)))], rgB ((g.acts.take k).foldl addA r) ++ [bxR, bxG g]⟩) (fun k => k ≤ g.acts.length) (fun k => g.acts.length - k) 0 (Nat.zero_le _) ((qSL 5 rfl rfl (hE := by (repeat ((conv => whnf); first | exact trivial | refine And.intro (by first | exact WkOne.any | exact WkOne.eq (by with_reducible rfl) rfl | exact WkOne.eq (congrArg (fun z => PV.imm (IV.int IntKind.i64 z)) (by first | omega | (simp [hml]; done) | (simp [hml]; omega))) rfl | exact WkOne.eq (by first | (simp [hml]; done) | fail) rfl | exact WkOne.eq rfl rfl | exact WkOne.le rfl (ILe.nil _)) ?_))))) ?_
 intro k hk
 have hho := Nat.lt_or_ge k g.acts.length
 cases hho with
 | inl hlt =>
   refine (?_ : ∀ Q : Exit → AS → Prop, vcS _ _ _ _ _ _ _ (loopQA _ _ _ _ _ _ Q)) _; intro Q
   obtain ⟨a, ha⟩ : ∃ a, g.acts[k]? = some a := ⟨g.acts[k], List.getElem?_eq_getElem hlt⟩
   have hst := addA_take ha r
   have hsm := hA a (List.mem_of_getElem? ha)
   unfold SmA at hsm
   generalize (g.acts.take k).foldl addA r = R at *
   have hlk := look_act R.acts a.num
   have hpr : putM (mkL kI IV.bool R.reps) (.int .i64 a.num) (.bool true) = mkL kI IV.bool (putL R.reps a.num true) := put_mkL (vv := IV.bool) eqI_kI a.num true R.reps
   have hpa : putM (mkL kI acv R.acts) (.int .i64 a.num) (acv a) = mkL kI acv (putL R.acts a.num a) := put_mkL (vv := acv) eqI_kI a.num a R.acts
   cases hf : lookL R.acts a.num with
   | some b =>
     rw [hf] at hlk
     have hadd : addA R a = ⟨R.acts, putL R.reps a.num true, R.cors⟩ := by unfold addA; rw [hf]
     rw [hadd] at hst
     (try (conv => whnf)); (repeat ((first | refine qT ?_ | refine qF ?_ | refine qO ?_ | (with_reducible intro z hz); (first | (replace hz := hz (by omega); subst hz) | subst hz)); (try (conv => whnf))))
     refine Idx.mk k (acv a) _ rfl (by simp [ha]) rfl ?_
     (try (conv => whnf)); (repeat ((first | refine qT ?_ | refine qF ?_ | refine qO ?_ | (with_reducible intro z hz); (first | (replace hz := hz (by omega); subst hz) | subst hz)); (try (conv => whnf))))
     refine LookK.mk (acv b) true (by rw [hlk]; rfl) (by rw [hlk]; rfl) ?_
     (try (conv => whnf)); (repeat ((first | refine qT ?_ | refine qF ?_ | refine qO ?_ | (with_reducible intro z hz); (first | (replace hz := hz (by omega); subst hz) | subst hz)); (try (conv => whnf))))
     exact ⟨k + 1, by omega, by dsimp only; omega, by
       dsimp only []
       rw [hst]
       exact (WeakA.mapTo 1 ((mkL kI IV.bool (putL R.reps a.num true))) rfl (by exact hpr)).trans (qSL 5 rfl rfl)⟩
   | none =>
     rw [hf] at hlk
     have hadd : addA R a = ⟨putL R.acts a.num a, R.reps, (eiA a).foldl addI R.cors⟩ := by unfold addA; rw [hf]
     rw [hadd] at hst
     have hmi : (a.items.map itv).length = a.items.length := List.length_map _
     (try (conv => whnf)); (repeat ((first | refine qT ?_ | refine qF ?_ | refine qO ?_ | (with_reducible intro z hz); (first | (replace hz := hz (by omega); subst hz) | subst hz)); (try (conv => whnf))))
     refine Idx.mk k (acv a) _ rfl (by simp [ha]) rfl ?_
     (try (conv => whnf)); (repeat ((first | refine qT ?_ | refine qF ?_ | refine qO ?_ | (with_reducible intro z hz); (first | (replace hz := hz (by omega); subst hz) | subst hz)); (try (conv => whnf))))
     refine LookK.mk acvZ false (by rw [hlk]; rfl) (by rw [hlk]; rfl) ?_
     (try (conv => whnf)); (repeat ((first | refine qT ?_ | refine qF ?_ | refine qO ?_ | (with_reducible intro z hz); (first | (replace hz := hz (by omega); subst hz) | subst hz)); (try (conv => whnf))))
     refine hLP _ _ _ Nat (fun i => ⟨[(2, .ptr 3 1 0), (5, .ptr 5 1 0), (11, .imm (.sl 7 (g.acts.map acv))), (12, .imm (.int .i64 (g.acts.length : Nat))), (13, .imm (.int .i64 (k : Nat))), (36, .imm (.sl 25 (a.items.map itv))), (37, .imm (.int .i64 (a.items.length : Nat))), (38, .imm (.int .i64 (i : Nat)))], rgB ⟨putL R.acts a.num a, R.reps, (eisL a.num a.day 0 (a.items.take i)).foldl addI R.cors⟩ ++ [bxR, bxG g, bxA a, bxZ]⟩) (fun i => i ≤ a.items.length) (fun i => a.items.length - i) 0 (Nat.zero_le _) ((WeakA.mapTo 0 ((mkL kI acv (putL R.acts a.num a))) rfl (by exact hpa)).trans ((qSL 7 rfl rfl (hE := by (repeat ((conv => whnf); first | exact trivial | refine And.intro (by first | exact WkOne.any | exact WkOne.eq (by with_reducible rfl) rfl | exact WkOne.eq (congrArg (fun z => PV.imm (IV.int IntKind.i64 z)) (by first | omega | (simp [hmi]; done) | (simp [hmi]; omega))) rfl | exact WkOne.eq (by first | (simp [hmi]; done) | fail) rfl | exact WkOne.eq rfl rfl | exact WkOne.le rfl (ILe.nil _)) ?_)))))) ?_
     intro i hi
     have hhi := Nat.lt_or_ge i a.items.length
     cases hhi with
     | inl hil =>
       refine (?_ : ∀ Q : Exit → AS → Prop, vcS _ _ _ _ _ _ _ (loopQA _ _ _ _ _ _ Q)) _; intro Q
       obtain ⟨x, hx⟩ : ∃ x, a.items[i]? = some x := ⟨a.items[i], List.getElem?_eq_getElem hil⟩
       have hsi := addI_take (n := a.num) (d := a.day) hx R.cors
       generalize (eisL a.num a.day 0 (a.items.take i)).foldl addI R.cors = M at *
       have hIc := isC_pc x
       have hAd := addC_pcb (mkL kI acv (putL R.acts a.num a)) (mkL kI IV.bool R.reps) M ⟨a.num, (i : Nat), a.day, x⟩
       rw [itv_eq x] at hIc
       unfold eiv at hAd
       cases hc : isC x with
       | true =>
         have hai : addI M ⟨a.num, (i : Nat), a.day, x⟩ = addC M ⟨a.num, (i : Nat), a.day, x⟩ := by unfold addI; rw [hc]; rfl
         rw [hai] at hsi
         rw [hc] at hIc
         (try (conv => whnf)); (repeat ((first | refine qT ?_ | refine qF ?_ | refine qO ?_ | (with_reducible intro z hz); (first | (replace hz := hz (by omega); subst hz) | subst hz)); (try (conv => whnf))))
         refine Idx.mk i (itv x) _ rfl (by simp [hx]) (by rw [itv_eq x]) ?_
         (try (conv => whnf)); (repeat ((first | refine qT ?_ | refine qF ?_ | refine qO ?_ | (with_reducible intro z hz); (first | (replace hz := hz (by omega); subst hz) | subst hz) | (refine CallV.mk _ (hC _ _ _ (PCw.of hIc)) (fun js hjs => ?_); subst hjs)); (try (conv => whnf))))
         refine CallB.mk ([]) (rgC ⟨putL R.acts a.num a, R.reps, addC M ⟨a.num, (i : Nat), a.day, x⟩⟩) (hB _ _ _ _ _ (hAd)) ?_
         (try (conv => whnf)); (repeat ((first | refine qT ?_ | refine qF ?_ | refine qO ?_ | (with_reducible intro z hz); (first | (replace hz := hz (by omega); subst hz) | subst hz)); (try (conv => whnf))))
         exact ⟨i + 1, by omega, by dsimp only; omega, by
           dsimp only []
           rw [hsi]
           exact (qSL 7 rfl rfl)⟩
       | false =>
         have hai : addI M ⟨a.num, (i : Nat), a.day, x⟩ = M := by unfold addI; rw [hc]; rfl
         rw [hai] at hsi
         rw [hc] at hIc
         (try (conv => whnf)); (repeat ((first | refine qT ?_ | refine qF ?_ | refine qO ?_ | (with_reducible intro z hz); (first | (replace hz := hz (by omega); subst hz) | subst hz)); (try (conv => whnf))))
         refine Idx.mk i (itv x) _ rfl (by simp [hx]) (by rw [itv_eq x]) ?_
         (try (conv => whnf)); (repeat ((first | refine qT ?_ | refine qF ?_ | refine qO ?_ | (with_reducible intro z hz); (first | (replace hz := hz (by omega); subst hz) | subst hz) | (refine CallV.mk _ (hC _ _ _ (PCw.of hIc)) (fun js hjs => ?_); subst hjs)); (try (conv => whnf))))
         exact ⟨i + 1, by omega, by dsimp only; omega, by
           dsimp only []
           rw [hsi]
           exact (qSL 7 rfl rfl)⟩
     | inr hig =>
       obtain rfl : i = a.items.length := by omega
       rw [List.take_length]
       (try (conv => whnf)); (repeat ((first | refine qT ?_ | refine qF ?_ | refine qO ?_ | (with_reducible intro z hz); (first | (replace hz := hz (by omega); subst hz) | subst hz)); (try (conv => whnf))))
       exact ⟨k + 1, by omega, by dsimp only; omega, by
         dsimp only []
         rw [hst]
         exact (qSL 5 rfl rfl)⟩
 | inr hge =>
   obtain rfl : k = g.acts.length := by omega
   rw [List.take_length]
   (try (conv => whnf)); (repeat ((first | refine qT ?_ | refine qF ?_ | refine qO ?_ | (with_reducible intro z hz); (first | (replace hz := hz (by omega); subst hz) | subst hz)); (try (conv => whnf))))
   exact hfin _ (qSL 3 rfl rfl)
end Go.Proofs.Ytglkpmhamekpmaa.Po
