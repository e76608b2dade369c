/-
  How findings and marks are compared. The reference's once, Notes; findings compared. The reference's Notes, walked; its Number's digits.
-/
import Derived.Test.YtkjgmnmngbfhhaaDoorWFk
namespace Go.Proofs.YtkjgmnmngbfhhaaDoor.Pn
open Go Go.Pv Go.RowKit Go.Proofs.YtkjgmnmngbfhhaaDoor.Pb
set_option linter.unusedSimpArgs false
open Lab Lcs Go.Proofs.YtkjgmnmngbfhhaaDoor Go.Proofs.YtkjgmnmngbfhhaaDoor.Pu
set_option maxRecDepth 10000
set_option maxHeartbeats 8000000
theorem agg_id (w : World) : (isAgg 23).run Tryd.prog w = .ok true w := run_isAgg (P := Tryd.prog) Tryd.underlying23
theorem size_id (w : World) : (sizeOf 23).run Tryd.prog w = .ok 3 w := by
 obtain ⟨i, z, u, h1, _, _, _, _, _, _, h8, _⟩ := td_facts tq_apiId
 rw [Go.Pv.run_sizeOf h1, ← h8]
theorem agg_err (w : World) : (isAgg 48).run Tryd.prog w = .ok false w := run_isAgg (P := Tryd.prog) (u := .int .i64) (by kernel_rfl)
theorem und_err : Tryd.prog.underlying 48 = some (.int .i64) := by kernel_rfl
theorem str_dec (s t : ByteArray) : (s.toList == t.toList) = decide (s = t) := by
 rw [← beq_toListBytes]
 by_cases h : s = t
 · subst h; simp [beq_toListBytes]
 · simp only [h, decide_false]
   rw [beq_toListBytes, Go.ByteArray.toList_eq, Go.ByteArray.toList_eq]
   simp only [beq_eq_false_iff_ne]
   intro e
   apply h
   cases s; cases t
   simp_all
theorem eq_find (d : Nat) (n : Int) (a b c e : Int) (s : ByteArray) (m : Int) (x y z f : Int) (t : ByteArray) (w : World) : (Op.equalIn (d + 3) 66 (.agg #[.int .i64 n, .int .i64 a, .int .i64 b, .int .i64 c, .int .i64 e, .string s]) (.agg #[.int .i64 m, .int .i64 x, .int .i64 y, .int .i64 z, .int .i64 f, .string t])).run Tryd.prog w = .ok (decide (n = m) && (decide (a = x) && (decide (b = y) && (decide (c = z) && (decide (e = f) && decide (s = t)))))) w := by
 rw [run_equalIn_struct w (d + 2) 66 _ _ (by kernel_rfl) (by kernel_rfl)]
 simp only [Program.fieldsOf, Tryd.underlying66]
 have hs := str_dec s t
 have hm := fun w => eq_id d a b c x y z w
 by_cases h1 : n = m
 rotate_left
 · simp [Op.eqFields, part, agg_int, run_equalIn_int _ _ _ _ _ _ _ und_int, h1]
 by_cases h2 : (a = x ∧ b = y ∧ c = z)
 rotate_left
 · have h3 : (decide (a = x) && (decide (b = y) && decide (c = z))) = false := by
     by_cases h4 : a = x <;> by_cases h5 : b = y <;> by_cases h6 : c = z <;> simp_all
   have h7 : (decide (a = x) && (decide (b = y) && (decide (c = z) && (decide (e = f) && decide (s = t))))) = false := by
     by_cases h4 : a = x <;> by_cases h5 : b = y <;> by_cases h6 : c = z <;> simp_all
   rw [h7]
   simp [Op.eqFields, part, agg_int, agg_id, size_id, run_equalIn_int _ _ _ _ _ _ _ und_int, h1, hm, h3]
 obtain ⟨rfl, rfl, rfl⟩ := h2
 by_cases h3 : e = f
 rotate_left
 · simp [Op.eqFields, part, agg_int, agg_id, agg_err, size_id, run_equalIn_int _ _ _ _ _ _ _ und_int, run_equalIn_int _ _ _ _ _ _ _ und_err, h1, hm, h3]
 by_cases h9 : s = t <;> simp [Op.eqFields, part, agg_int, agg_id, agg_err, agg_str, size_id, run_equalIn_int _ _ _ _ _ _ _ und_int, run_equalIn_int _ _ _ _ _ _ _ und_err, run_equalIn_string _ _ _ _ _ und_str, hs, h1, hm, h3, h9]
def eqf (t : TypeId) : Option (List CK) := if t = 66 then some [.int .i64, .int .i64, .int .i64, .int .i64, .int .i64, .str] else if t = 50 then some [.int .i64, .int .i64, .int .i64] else eqs t
theorem eqf_ok : EqsOK Tryd.prog eqf := by
 intro t ks h w x y is js xs ys Q h1 h2 h3 h4
 unfold eqf at h
 split at h
 · rename_i ht
   simp only [Option.some.injEq] at h
   subst h
   subst ht
   obtain ⟨n, _, rfl, ph11⟩ := shape_int h1
   obtain ⟨a, _, rfl, ph12⟩ := shape_int ph11
   obtain ⟨b, _, rfl, ph13⟩ := shape_int ph12
   obtain ⟨c, _, rfl, ph14⟩ := shape_int ph13
   obtain ⟨e, _, rfl, ph15⟩ := shape_int ph14
   obtain ⟨s, _, rfl, ph16⟩ := shape_str ph15
   obtain ⟨m, _, rfl, ph21⟩ := shape_int h2
   obtain ⟨x', _, rfl, ph22⟩ := shape_int ph21
   obtain ⟨y', _, rfl, ph23⟩ := shape_int ph22
   obtain ⟨z', _, rfl, ph24⟩ := shape_int ph23
   obtain ⟨f, _, rfl, ph25⟩ := shape_int ph24
   obtain ⟨t, _, rfl, ph26⟩ := shape_str ph25
   obtain rfl := shape_nil ph16
   obtain rfl := shape_nil ph26
   simp only [RepC, RepI] at h3 h4
   obtain ⟨_, _, rfl, _, rfl, _, _, rfl, _, rfl, _, _, rfl, _, rfl, _, _, rfl, _, rfl, _, _, rfl, _, rfl, _, _, rfl, _, rfl, rfl⟩ := h3
   obtain ⟨_, _, rfl, _, rfl, _, _, rfl, _, rfl, _, _, rfl, _, rfl, _, _, rfl, _, rfl, _, _, rfl, _, rfl, _, _, rfl, _, rfl, rfl⟩ := h4
   refine ⟨run_eqGuard_agg w _ _ _ _ _ _ (by kernel_rfl), run_eqGuard_agg w _ _ _ _ _ _ (by kernel_rfl), ?_⟩
   have := eq_find 9997 n a b c e s m x' y' z' f t w
   simpa [Op.equal, Op.maxDepth, eqC] using this
 · split at h
   · rename_i ht
     simp only [Option.some.injEq] at h
     subst h
     subst ht
     obtain ⟨a, _, rfl, ph11⟩ := shape_int h1
     obtain ⟨b, _, rfl, ph12⟩ := shape_int ph11
     obtain ⟨c, _, rfl, ph13⟩ := shape_int ph12
     obtain ⟨d, _, rfl, ph21⟩ := shape_int h2
     obtain ⟨e, _, rfl, ph22⟩ := shape_int ph21
     obtain ⟨f, _, rfl, ph23⟩ := shape_int ph22
     obtain rfl := shape_nil ph13
     obtain rfl := shape_nil ph23
     simp only [RepC, RepI] at h3 h4
     obtain ⟨_, _, rfl, _, rfl, _, _, rfl, _, rfl, _, _, rfl, _, rfl, rfl⟩ := h3
     obtain ⟨_, _, rfl, _, rfl, _, _, rfl, _, rfl, _, _, rfl, _, rfl, rfl⟩ := h4
     refine ⟨run_eqGuard_agg w _ _ _ _ _ _ (by kernel_rfl), run_eqGuard_agg w _ _ _ _ _ _ (by kernel_rfl), ?_⟩
     have := eq_mark 9998 a b c d e f w
     simpa [Op.equal, Op.maxDepth, eqC] using this
   · exact eqs_ok t ks h w x y is js xs ys Q h1 h2 h3 h4
def tbm (fr : Nat → List Nat) (hk : Nat → Bool) (nw : FuncId → Nat) : Tb := ⟨Pv.look tdl, eqf, fun _ => none, fr, hk, nw⟩
def tbe : Tb := tbm (fun _ => []) (fun _ => false) fun _ => 0
def tbo : Tb := tbm (fun _ => []) (fun _ => false) nwK
theorem tbm_ok {fr : Nat → List Nat} {hk : Nat → Bool} {nw : FuncId → Nat} : ∀ t d, (tbm fr hk nw).td t = some d → tdOf Tryd.prog t = some d := Pv.look_ok tdl_ok
end Go.Proofs.YtkjgmnmngbfhhaaDoor.Pn
namespace Go.Proofs.YtkjgmnmngbfhhaaDoor.Pn
open Go Go.Pv Go.RowKit Go.Proofs.YtkjgmnmngbfhhaaDoor.Pb
set_option linter.unusedSimpArgs false
open Lab Lcs Go.Proofs.YtkjgmnmngbfhhaaDoor Go.Proofs.YtkjgmnmngbfhhaaDoor.Pu
set_option maxRecDepth 10000
set_option maxHeartbeats 16000000
def onceL (L : List Str) : List Str := L.foldl (fun o s => if inB s o then o else o ++ [s]) []
theorem onceL_snoc' (L : List Str) (s : Str) : onceL (L ++ [s]) = if inB s (onceL L) then onceL L else onceL L ++ [s] := by unfold onceL; rw [List.foldl_append]; rfl
theorem once_in (L : List Str) (s : Str) : inB s (onceL L) = inB s L := by
 have : ∀ (n : Nat) (L : List Str), L.length = n → inB s (onceL L) = inB s L := by
   intro n
   induction n with
   | zero => intro L hL; obtain rfl := List.eq_nil_of_length_eq_zero hL; rfl
   | succ n ih =>
     intro L hL
     obtain ⟨r, x, rfl⟩ : ∃ r x, L = r ++ [x] := ⟨L.dropLast, L.getLast (by intro h; subst h; simp at hL), (List.dropLast_concat_getLast _).symm⟩
     have h1 := ih r (by simpa using hL)
     rw [onceL_snoc', inB_snoc]
     cases hx : inB x (onceL r) with
     | true =>
       rw [if_pos rfl, h1]
       by_cases h : x = s
       · subst h
         rw [← h1, hx]; simp
       · simp [h]
     | false =>
       rw [if_neg (by simp), inB_snoc, h1]
 exact this _ L rfl
theorem onceL_snoc (L : List Str) (s : Str) : onceL (L ++ [s]) = onceL L ++ if inB s L then [] else [s] := by
 rw [onceL_snoc', once_in]
 cases inB s L <;> simp
theorem onceL_len (L : List Str) : (onceL L).length ≤ L.length := by
 have : ∀ (n : Nat) (L : List Str), L.length = n → (onceL L).length ≤ n := by
   intro n
   induction n with
   | zero => intro L hL; obtain rfl := List.eq_nil_of_length_eq_zero hL; exact Nat.le_refl _
   | succ n ih =>
     intro L hL
     obtain ⟨r, x, rfl⟩ : ∃ r x, L = r ++ [x] := ⟨L.dropLast, L.getLast (by intro h; subst h; simp at hL), (List.dropLast_concat_getLast _).symm⟩
     have h1 := ih r (by simpa using hL)
     rw [onceL_snoc, List.length_append]
     have : (if inB x r then ([] : List Str) else [x]).length ≤ 1 := by split <;> simp
     omega
 exact this _ L rfl
theorem once_pc (L : List Str) (hl : L.length ≤ 100000) : PC Tryd.prog env0 47 [.sl 1 (sv L)] [.sl 1 (sv (onceL L))] := by
 have hml := sv_len L
 refine PC.of_va (T := tbo) eqf_ok tbm_ok rfl mixed Tryd.func47 rfl rfl (Nat.le_of_ble_eq_true rfl) ?_; intro Γ C WK LP fin h0 hW hC hB hR hLP hfin
 (try (conv => whnf)); (repeat ((first | refine qT ?_ | refine qF ?_ | refine qO ?_ | (with_reducible intro z hz); (first | (replace hz := hz (by omega); subst hz) | subst hz)); (try (conv => whnf))))
 refine hLP _ _ _ Nat (fun k => ⟨[(0, .imm (.sl 1 (sv L))), (3, .row 0 1), (4, .imm (.int .i64 (k : Nat)))], [.row 9 1 1 ((sv (onceL (L.take k))).map .imm)]⟩) (fun k => k ≤ L.length) (fun k => L.length - k) 0 (Nat.zero_le _) (((WeakA.row 0 (((sv (onceL (L.take 0))).map .imm)) rfl (by simp [sv, onceL]))).trans (qSL 1 rfl rfl)) ?_
 intro k hk
 have hho := Nat.lt_or_ge k L.length
 cases hho with
 | inr hge =>
   obtain rfl : k = L.length := by omega
   rw [List.take_length]
   (try (conv => whnf)); (repeat ((first | refine qT ?_ | refine qF ?_ | refine qO ?_ | (with_reducible intro z hz); (first | (replace hz := hz (by omega); subst hz) | subst hz)); (try (conv => whnf))))
   refine Imms.mk (sv (onceL L)) rfl ?_
   exact hfin _ (ILes.refl _)
 | inl hlt =>
   obtain ⟨x, hx⟩ : ∃ x, L[k]? = some x := ⟨L[k], List.getElem?_eq_getElem hlt⟩
   have hol := onceL_len (L.take k)
   rw [List.length_take] at hol
   have hpc := place_pcb (onceL (L.take k)) x (by omega)
   have hpi := place_in (onceL (L.take k)) x
   have hsn := onceL_snoc' (L.take k) x
   rw [← take_at hx] at hsn
   have hRl : ((sv (onceL (L.take k))).map PV.imm).length ≤ k := by rw [List.length_map, sv_len]; omega
   have hOw : ((sv (onceL (L.take k))).map PV.imm).length + 1 ≤ most := by unfold most; omega
   generalize idxZ (fun y => decide (y = x)) (onceL (L.take k)) = z at hpc hpi
   cases hin : inB x (onceL (L.take k))
   · have hz : ¬ 0 ≤ z := fun h => by rw [hpi.1 h] at hin; cases hin
     rw [hin, if_neg (by simp)] at hsn
     (try (conv => whnf)); (repeat ((first | refine qT ?_ | refine qF ?_ | refine qO ?_ | (with_reducible intro z hz); (first | (replace hz := hz (by omega); subst hz) | subst hz)); (try (conv => whnf))))
     refine Idx.mk k (.str x) _ rfl (by simp [sv, hx]) rfl ?_
     (try (conv => whnf)); (repeat ((first | refine qT ?_ | refine qF ?_ | refine qO ?_ | (with_reducible intro z hz); (first | (replace hz := hz (by omega); subst hz) | subst hz)); (try (conv => whnf))))
     refine Imms.mk (sv (onceL (L.take k))) rfl ?_
     (try (conv => whnf)); (repeat ((first | refine qT ?_ | refine qF ?_ | refine qO ?_ | (with_reducible intro z hz); (first | (replace hz := hz (by omega); subst hz) | subst hz)); (try (conv => whnf))))
     refine CallB.mk ([.imm (.int .i64 z)]) ([.row 9 1 1 (sv (onceL (L.take k)))]) (hB _ _ _ _ _ (hpc)) ?_
     (try (conv => whnf)); (repeat ((first | refine qT ?_ | refine qF ?_ | refine qO ?_ | (with_reducible intro z hz); (first | (replace hz := hz (by omega); subst hz) | subst hz)); (try (conv => whnf))))
     refine Idx.mk k (.str x) _ rfl (by simp [sv, hx]) rfl ?_
     (try (conv => whnf)); (repeat ((first | refine qT ?_ | refine qF ?_ | refine qO ?_ | (with_reducible intro z hz); (first | (replace hz := hz (by omega); subst hz) | subst hz)); (try (conv => whnf))))
     exact ⟨k + 1, by omega, by dsimp only; omega, ((WeakA.row 0 (((sv (onceL (L.take (k + 1)))).map .imm)) rfl (by rw [hsn]; simp [sv]))).trans ((WeakA.renew 0 1 rfl (by first | omega | (intro _; rw [hk0 _ _ rfl]; exact Nat.le_of_ble_eq_true rfl)) (by repeat (first | exact trivial | refine And.intro (rgL_imms _ _ _ _) ?_ | refine And.intro rfl ?_))).trans (qSL 1 rfl rfl))⟩
   · have hz := hpi.2 hin
     rw [hin, if_pos rfl] at hsn
     (try (conv => whnf)); (repeat ((first | refine qT ?_ | refine qF ?_ | refine qO ?_ | (with_reducible intro z hz); (first | (replace hz := hz (by omega); subst hz) | subst hz)); (try (conv => whnf))))
     refine Idx.mk k (.str x) _ rfl (by simp [sv, hx]) rfl ?_
     (try (conv => whnf)); (repeat ((first | refine qT ?_ | refine qF ?_ | refine qO ?_ | (with_reducible intro z hz); (first | (replace hz := hz (by omega); subst hz) | subst hz)); (try (conv => whnf))))
     refine Imms.mk (sv (onceL (L.take k))) rfl ?_
     (try (conv => whnf)); (repeat ((first | refine qT ?_ | refine qF ?_ | refine qO ?_ | (with_reducible intro z hz); (first | (replace hz := hz (by omega); subst hz) | subst hz)); (try (conv => whnf))))
     refine CallB.mk ([.imm (.int .i64 z)]) ([.row 9 1 1 (sv (onceL (L.take k)))]) (hB _ _ _ _ _ (hpc)) ?_
     (try (conv => whnf)); (repeat ((first | refine qT ?_ | refine qF ?_ | refine qO ?_ | (with_reducible intro z hz); (first | (replace hz := hz (by omega); subst hz) | subst hz)); (try (conv => whnf))))
     exact ⟨k + 1, by omega, by dsimp only; omega, ((WeakA.row 0 (((sv (onceL (L.take (k + 1)))).map .imm)) rfl (by rw [hsn]))).trans (qSL 1 rfl rfl)⟩
theorem calls_once (kids : List Ut) (l : List (Nat × Str)) : callsL kids l = (onceL (l.map Prod.snd)).filterMap (noteO kids) := by
 have : ∀ (n : Nat) (l : List (Nat × Str)), l.length = n → callsL kids l = (onceL (l.map Prod.snd)).filterMap (noteO kids) := by
   intro n
   induction n with
   | zero => intro L hL; obtain rfl := List.eq_nil_of_length_eq_zero hL; rfl
   | succ n ih =>
     intro L hL
     obtain ⟨r, x, rfl⟩ : ∃ r x, L = r ++ [x] := ⟨L.dropLast, L.getLast (by intro h; subst h; simp at hL), (List.dropLast_concat_getLast _).symm⟩
     rw [callsL_snoc, ih r (by simpa using hL), List.map_append, List.map_cons, List.map_nil, onceL_snoc, List.filterMap_append]
     congr 1
     cases inB x.2 (r.map Prod.snd) with
     | true => simp
     | false =>
       simp only [Bool.false_eq_true, if_false]
       rw [List.filterMap_cons]
       cases hq : noteO kids x.2 <;> rfl
 exact this _ l rfl
theorem perN_once (u : Ut) : perN u = ((onceL (labL u.words)).filterMap (noteO u.kids)).map (kidId u) := by
 unfold perN callN
 rw [calls_once]
 rfl
theorem flaws_pc (a b : List Fd) (hb : b.length ≤ 500000000) : PC Tryd.prog env0 18 [.sl 6 (a.map fdv), .sl 6 (b.map fdv)] [.bool (decide (a = b))] := by
 have hal : (a.map fdv).length = a.length := List.length_map _
 have hbl : (b.map fdv).length = b.length := List.length_map _
 by_cases hlen : a.length = b.length
 rotate_left
 · have hne : a ≠ b := fun h => hlen (by rw [h])
   rw [decide_eq_false hne]
   refine PC.of_va (T := tbe) eqf_ok tbm_ok rfl mixed Tryd.func18 rfl rfl (Nat.le_of_ble_eq_true rfl) ?_; intro Γ C WK LP fin h0 hW hC hB hR hLP hfin
   (try (conv => whnf)); (repeat ((first | refine qT ?_ | refine qF ?_ | refine qO ?_ | (with_reducible intro z hz); (first | (replace hz := hz (by omega); subst hz) | subst hz)); (try (conv => whnf))))
   exact hfin _ (ILes.refl _)
 refine PC.of_va (T := tbe) eqf_ok tbm_ok rfl mixed Tryd.func18 rfl rfl (Nat.le_of_ble_eq_true rfl) ?_; intro Γ C WK LP fin h0 hW hC hB hR hLP hfin
 (try (conv => whnf)); (repeat ((first | refine qT ?_ | refine qF ?_ | refine qO ?_ | (with_reducible intro z hz); (first | (replace hz := hz (by omega); subst hz) | subst hz)); (try (conv => whnf))))
 refine hLP _ _ _ Nat (fun k => ⟨[(0, .imm (.sl 6 (a.map fdv))), (1, .imm (.sl 6 (b.map fdv))), (5, .imm (.int .i64 (k : Nat)))], []⟩) (fun k => k ≤ a.length ∧ a.take k = b.take k) (fun k => a.length - k) 0 ⟨Nat.zero_le _, by simp⟩ (qSL 0 rfl rfl) ?_
 rintro k ⟨hk, hp⟩
 have hho := Nat.lt_or_ge k a.length
 cases hho with
 | inr hge =>
   obtain rfl : k = a.length := by omega
   rw [List.take_length, hlen, List.take_length] at hp
   rw [decide_eq_true hp] at hfin
   (try (conv => whnf)); (repeat ((first | refine qT ?_ | refine qF ?_ | refine qO ?_ | (with_reducible intro z hz); (first | (replace hz := hz (by omega); subst hz) | subst hz)); (try (conv => whnf))))
   exact hfin _ (ILes.refl _)
 | inl hlt =>
   obtain ⟨x, hx⟩ : ∃ x, a[k]? = some x := ⟨a[k], List.getElem?_eq_getElem hlt⟩
   obtain ⟨y, hy⟩ : ∃ y, b[k]? = some y := ⟨b[k]'(by omega), List.getElem?_eq_getElem (by omega)⟩
   have heq : eqC (fdl x) (fdl y) = decide (x = y) := by
     obtain ⟨x1, ⟨x2, x3, x4⟩, x5, x6⟩ := x
     obtain ⟨y1, ⟨y2, y3, y4⟩, y5, y6⟩ := y
     have hi : decide (((x1 : Nat) : Int) = ((y1 : Nat) : Int)) = decide (x1 = y1) := by
       by_cases h : x1 = y1
       · rw [h]; simp
       · rw [decide_eq_false h, decide_eq_false (by omega)]
     simp only [fdl, eqC, hi, Fd.mk.injEq, Trip.mk.injEq, Bool.and_true]
     by_cases h1 : x1 = y1 <;> by_cases h2 : x2 = y2 <;> by_cases h3 : x3 = y3 <;> by_cases h4 : x4 = y4 <;> by_cases h5 : x5 = y5 <;> by_cases h6 : x6 = y6 <;> simp [h1, h2, h3, h4, h5, h6]
   by_cases hxy : x = y
   · rw [decide_eq_true hxy] at heq
     (try (conv => whnf)); (repeat ((first | refine qT ?_ | refine qF ?_ | refine qO ?_ | (with_reducible intro z hz); (first | (replace hz := hz (by omega); subst hz) | subst hz)); (try (conv => whnf))))
     refine Idx.mk k (fdv x) _ rfl (by simp [hx]) rfl ?_
     (try (conv => whnf)); (repeat ((first | refine qT ?_ | refine qF ?_ | refine qO ?_ | (with_reducible intro z hz); (first | (replace hz := hz (by omega); subst hz) | subst hz)); (try (conv => whnf))))
     refine Idx.mk k (fdv y) _ rfl (by simp [hy]) rfl ?_
     (try (conv => whnf)); (repeat ((first | refine qT ?_ | refine qF ?_ | refine qO ?_ | (with_reducible intro z hz); (first | (replace hz := hz (by omega); subst hz) | subst hz)); (try (conv => whnf))))
     exact ⟨k + 1, ⟨by omega, by rw [take_at hx, take_at hy, hp, hxy]⟩, by dsimp only; omega, (qSL 0 rfl rfl)⟩
   · rw [decide_eq_false hxy] at heq
     have hne : a ≠ b := fun h => hxy (by rw [h, hy] at hx; exact (Option.some.inj hx).symm)
     rw [decide_eq_false hne] at hfin
     (try (conv => whnf)); (repeat ((first | refine qT ?_ | refine qF ?_ | refine qO ?_ | (with_reducible intro z hz); (first | (replace hz := hz (by omega); subst hz) | subst hz)); (try (conv => whnf))))
     refine Idx.mk k (fdv x) _ rfl (by simp [hx]) rfl ?_
     (try (conv => whnf)); (repeat ((first | refine qT ?_ | refine qF ?_ | refine qO ?_ | (with_reducible intro z hz); (first | (replace hz := hz (by omega); subst hz) | subst hz)); (try (conv => whnf))))
     refine Idx.mk k (fdv y) _ rfl (by simp [hy]) rfl ?_
     (try (conv => whnf)); (repeat ((first | refine qT ?_ | refine qF ?_ | refine qO ?_ | (with_reducible intro z hz); (first | (replace hz := hz (by omega); subst hz) | subst hz)); (try (conv => whnf))))
     refine Fork.mk (fun hq => absurd (hq.symm.trans heq) (by simp)) (fun hc => ?_)
     (try (conv => whnf)); (repeat ((first | refine qT ?_ | refine qF ?_ | refine qO ?_ | (with_reducible intro z hz); (first | (replace hz := hz (by omega); subst hz) | subst hz)); (try (conv => whnf))))
     exact hfin _ (ILes.refl _)
end Go.Proofs.YtkjgmnmngbfhhaaDoor.Pn
namespace Go.Proofs.YtkjgmnmngbfhhaaDoor.Pn
open Go Go.Pv Go.RowKit Go.Proofs.YtkjgmnmngbfhhaaDoor.Pb
set_option linter.unusedSimpArgs false
open Lab Lcs Go.Proofs.YtkjgmnmngbfhhaaDoor Go.Proofs.YtkjgmnmngbfhhaaDoor.Pu
set_option maxRecDepth 10000
set_option maxHeartbeats 16000000
theorem not_kids (u : Ut) (k : Nat) (hok : OkT u) : (notL (Ut.alls (u.kids.take k))).length ≤ 200000 * u.count := by
 have h := notL_len (Ut.alls (u.kids.take k)) fun y hy => hok y (by
   rw [Ut.all_eq]
   obtain ⟨z, hz, hyz⟩ := mem_alls.1 hy
   exact List.mem_cons_of_mem _ (mem_alls.2 ⟨z, List.mem_of_mem_take hz, hyz⟩))
 rw [alls_len] at h
 have h2 : Ut.counts (u.kids.take k) ≤ Ut.counts u.kids := by
   have := List.take_append_drop k u.kids
   have hc : ∀ a b : List Ut, Ut.counts (a ++ b) = Ut.counts a + Ut.counts b := by
     intro a b
     induction a with
     | nil => simp [Ut.counts]
     | cons y a ih => simp only [List.cons_append, Ut.counts]; omega
   rw [← this, hc]
   rw [this]
   exact Nat.le_add_right _ _
 have h3 := Ut.count_eq u
 omega
theorem rnotes_pc (N : Nat) : ∀ u : Ut, u.count ≤ N → N ≤ 1000 → OkT u → PC Tryd.prog env0 23 [uv u] [.sl 3 ((notL u.all).map idv)] := by
 induction N with
 | zero => intro u h; have := count_pos u; omega
 | succ N ih =>
 intro u hN hM hok
 have hue := uv_eq u
 have hmem : u ∈ u.all := by rw [Ut.all_eq]; exact List.mem_cons_self
 have hou := hok u hmem
 have hall := notL_all u
 have hpl := perN_len u hou
 have hpo := perN_once u
 have hkl : (u.kids.map uv).length = u.kids.length := List.length_map _
 have hw := hou.1
 have hk0 := hou.2.2
 have hno : ∀ s, PC Tryd.prog env0 40 [.agg [.int .i64 u.id.x, .int .i64 u.id.y, .int .i64 u.id.z, .int .i64 u.kind, .str u.label, .sl 4 (u.head.map wdv), .sl 4 (u.words.map wdv), .sl 8 (u.kids.map uv)], .str s] [.int .i64 (idxZ (isNote s) u.kids)] := fun s => by
   have := note_pc u s (by omega)
   rwa [hue] at this
 have hA := (rlabels_pcr u hou).pc
 have hll := labL_len u.words
 have hO := once_pc (labL u.words) (by omega)
 have hol := onceL_len (labL u.words)
 rw [hue] at hA ⊢
 generalize labL u.words = L at hA hO hol hll hpo
 generalize onceL L = O at hO hol hpo
 have hsl := sv_len O
 refine PC.of_va (T := tbe) eqf_ok tbm_ok rfl mixed Tryd.func23 rfl rfl (Nat.le_of_ble_eq_true rfl) ?_; intro Γ C WK LP fin h0 hW hC hB hR hLP hfin
 (try (conv => whnf)); (repeat ((first | refine qT ?_ | refine qF ?_ | refine qO ?_ | (with_reducible intro z hz); (first | (replace hz := hz (by omega); subst hz) | subst hz) | (refine CallV.mk _ (hC _ _ _ (PCw.of hA)) (fun js hjs => ?_); subst hjs) | (refine CallV.mk _ (hC _ _ _ (PCw.of hO)) (fun js hjs => ?_); subst hjs)); (try (conv => whnf))))
 refine hLP _ _ _ Nat (fun k => ⟨[(1, .ptr 0 1 0), (3, .row 1 1), (4, .imm (.sl 1 (sv O))), (5, .imm (.int .i64 (k : Nat)))], [.box 1 [.imm (.int .i64 u.id.x), .imm (.int .i64 u.id.y), .imm (.int .i64 u.id.z), .imm (.int .i64 u.kind), .imm (.str u.label), .imm (.sl 4 (u.head.map wdv)), .imm (.sl 4 (u.words.map wdv)), .imm (.sl 8 (u.kids.map uv))], .row 23 3 1 (((((O.take k).filterMap (noteO u.kids)).map (kidId u)).map idv).map .imm)]⟩) (fun k => k ≤ O.length) (fun k => O.length - k) 0 (Nat.zero_le _) (((WeakA.row 1 ((((((O.take 0).filterMap (noteO u.kids)).map (kidId u)).map idv).map .imm)) rfl (by simp))).trans (qSL 2 rfl rfl)) ?_
 intro k hk
 have hho := Nat.lt_or_ge k O.length
 cases hho with
 | inl hlt =>
   refine (?_ : ∀ Q : Exit → AS → Prop, vcS _ _ _ _ _ _ _ (loopQA _ _ _ _ _ _ Q)) _; intro Q
   obtain ⟨s, hs⟩ : ∃ s, O[k]? = some s := ⟨O[k], List.getElem?_eq_getElem hlt⟩
   have hnt := hno s
   have hni := noteO_idx u.kids s
   have hsn : (O.take (k + 1)).filterMap (noteO u.kids) = (O.take k).filterMap (noteO u.kids) ++ (noteO u.kids s).toList := by
     rw [take_at hs, List.filterMap_append, List.filterMap_cons]
     cases noteO u.kids s <;> rfl
   have hfl := List.length_filterMap_le (noteO u.kids) (O.take k)
   rw [List.length_take] at hfl
   have hRl : (((((O.take k).filterMap (noteO u.kids)).map (kidId u)).map idv).map PV.imm).length ≤ k := by
     rw [List.length_map, List.length_map, List.length_map]; omega
   have hOw : (((((O.take k).filterMap (noteO u.kids)).map (kidId u)).map idv).map PV.imm).length + 1 ≤ most := by unfold most; omega
   generalize idxZ (isNote s) u.kids = y at hnt hni
   cases hnn : noteO u.kids s with
   | none =>
     rw [hnn] at hsn hni
     dsimp only at hni
     rw [Option.toList_none, List.append_nil] at hsn
     (try (conv => whnf)); (repeat ((first | refine qT ?_ | refine qF ?_ | refine qO ?_ | (with_reducible intro z hz); (first | (replace hz := hz (by omega); subst hz) | subst hz)); (try (conv => whnf))))
     refine Idx.mk k (.str s) _ rfl (by simp [sv, hs]) rfl ?_
     (try (conv => whnf)); (repeat ((first | refine qT ?_ | refine qF ?_ | refine qO ?_ | (with_reducible intro z hz); (first | (replace hz := hz (by omega); subst hz) | subst hz) | (refine CallV.mk _ (hC _ _ _ (PCw.of hnt)) (fun js hjs => ?_); subst hjs)); (try (conv => whnf))))
     exact ⟨k + 1, by omega, by dsimp only; omega, ((WeakA.row 1 ((((((O.take (k + 1)).filterMap (noteO u.kids)).map (kidId u)).map idv).map .imm)) rfl (by rw [hsn]))).trans (qSL 2 rfl rfl)⟩
   | some n =>
     rw [hnn] at hsn hni
     dsimp only at hni
     obtain ⟨x, hx, _⟩ := noteO_some hnn
     have hux := uv_eq x
     have hy0 : 0 ≤ y := by rw [hni]; exact Int.natCast_nonneg n
     have hki : kidId u n = x.id := by unfold kidId; rw [hx]
     (try (conv => whnf)); (repeat ((first | refine qT ?_ | refine qF ?_ | refine qO ?_ | (with_reducible intro z hz); (first | (replace hz := hz (by omega); subst hz) | subst hz)); (try (conv => whnf))))
     refine Idx.mk k (.str s) _ rfl (by simp [sv, hs]) rfl ?_
     (try (conv => whnf)); (repeat ((first | refine qT ?_ | refine qF ?_ | refine qO ?_ | (with_reducible intro z hz); (first | (replace hz := hz (by omega); subst hz) | subst hz) | (refine CallV.mk _ (hC _ _ _ (PCw.of hnt)) (fun js hjs => ?_); subst hjs)); (try (conv => whnf))))
     refine Idx.mk n (uv x) _ hni (by rw [List.getElem?_map, hx]; rfl) (by rw [hux]) ?_
     (try (conv => whnf)); (repeat ((first | refine qT ?_ | refine qF ?_ | refine qO ?_ | (with_reducible intro z hz); (first | (replace hz := hz (by omega); subst hz) | subst hz)); (try (conv => whnf))))
     exact ⟨k + 1, by omega, by dsimp only; omega, ((WeakA.row 1 ((((((O.take (k + 1)).filterMap (noteO u.kids)).map (kidId u)).map idv).map .imm)) rfl (by rw [hsn]; simp [hki, idv, idl, cellsI]))).trans ((WeakA.renew 1 1 rfl (by first | omega | (intro _; rw [hk0 _ _ rfl]; exact Nat.le_of_ble_eq_true rfl)) (by repeat (first | exact trivial | refine And.intro (rgL_imms _ _ _ _) ?_ | refine And.intro rfl ?_))).trans (qSL 2 rfl rfl))⟩
 | inr hge =>
   obtain rfl : k = O.length := by omega
   rw [List.take_length, ← hpo]
   generalize perN u = F2 at hpl hall
   (try (conv => whnf)); (repeat ((first | refine qT ?_ | refine qF ?_ | refine qO ?_ | (with_reducible intro z hz); (first | (replace hz := hz (by omega); subst hz) | subst hz)); (try (conv => whnf))))
   refine hLP _ _ _ Nat (fun k => ⟨[(1, .ptr 0 1 0), (3, .row 1 1), (7, .imm (.int .i64 (k : Nat)))], [.box 1 [.imm (.int .i64 u.id.x), .imm (.int .i64 u.id.y), .imm (.int .i64 u.id.z), .imm (.int .i64 u.kind), .imm (.str u.label), .imm (.sl 4 (u.head.map wdv)), .imm (.sl 4 (u.words.map wdv)), .imm (.sl 8 (u.kids.map uv))], .row 23 3 1 (((F2 ++ notL (Ut.alls (u.kids.take k))).map idv).map .imm)]⟩) (fun k => k ≤ u.kids.length) (fun k => u.kids.length - k) 0 (Nat.zero_le _) (((WeakA.row 1 ((((F2 ++ notL (Ut.alls (u.kids.take 0))).map idv).map .imm)) rfl (by simp [Ut.alls, notL]))).trans (qSL 2 rfl rfl)) ?_
   intro k hk
   have hho := Nat.lt_or_ge k u.kids.length
   cases hho with
   | inl hlt =>
     refine (?_ : ∀ Q : Exit → AS → Prop, vcS _ _ _ _ _ _ _ (loopQA _ _ _ _ _ _ Q)) _; intro Q
     obtain ⟨x, hx⟩ : ∃ x, u.kids[k]? = some x := ⟨u.kids[k], List.getElem?_eq_getElem hlt⟩
     have hux := uv_eq x
     have h1 := kid_lt' hx
     have hI := ih x (by omega) (by omega) fun y hy => hok y (kid_all (List.mem_of_getElem? hx) hy)
     have htk := notL_take hx
     have hfk := not_kids u k hok
     have hfk1 := not_kids u (k + 1) hok
     rw [htk, List.length_append] at hfk1
     rw [hux] at hI
     generalize notL x.all = G at hI htk hfk1
     have hGl : (G.map idv).length = G.length := List.length_map _
     have hOw : (((F2 ++ notL (Ut.alls (u.kids.take k))).map idv).map PV.imm).length + (G.map idv).length ≤ most := by
       rw [List.length_map, List.length_map, List.length_append, hGl]
       unfold most
       omega
     (try (conv => whnf)); (repeat ((first | refine qT ?_ | refine qF ?_ | refine qO ?_ | (with_reducible intro z hz); (first | (replace hz := hz (by omega); subst hz) | subst hz)); (try (conv => whnf))))
     refine Idx.mk k (uv x) _ rfl (by simp [hx]) (by rw [hux]; try rfl) ?_
     (try (conv => whnf)); (repeat ((first | refine qT ?_ | refine qF ?_ | refine qO ?_ | (with_reducible intro z hz); (first | (replace hz := hz (by omega); subst hz) | subst hz) | (refine CallV.mk _ (hC _ _ _ (PCw.of hI)) (fun js hjs => ?_); subst hjs)); (try (conv => whnf))))
     exact ⟨k + 1, by omega, by dsimp only; omega, ((WeakA.row 1 ((((F2 ++ notL (Ut.alls (u.kids.take (k + 1)))).map idv).map .imm)) rfl (by rw [htk]; simp [List.map_append]))).trans ((WeakA.renew 1 1 rfl (by first | omega | (intro _; rw [hk0 _ _ rfl]; exact Nat.le_of_ble_eq_true rfl)) (by repeat (first | exact trivial | refine And.intro (rgL_imms _ _ _ _) ?_ | refine And.intro rfl ?_))).trans (qSL 2 rfl rfl))⟩
   | inr hge =>
     obtain rfl : k = u.kids.length := by omega
     rw [List.take_length, ← hall]
     (try (conv => whnf)); (repeat ((first | refine qT ?_ | refine qF ?_ | refine qO ?_ | (with_reducible intro z hz); (first | (replace hz := hz (by omega); subst hz) | subst hz)); (try (conv => whnf))))
     refine Imms.mk ((notL u.all).map idv) rfl ?_
     exact hfin _ (ILes.refl _)
theorem chr_dig (n : Nat) (h : n < 10) : IntKind.u8.wrap (48 + (n : Int)) = ((48 + UInt8.ofNat n).toNat : Int) := by
 match n, h with
 | 0, _ | 1, _ | 2, _ | 3, _ | 4, _ | 5, _ | 6, _ | 7, _ | 8, _ | 9, _ => rfl
theorem dig1_pc (n : Nat) (h : n < 10) : PC Tryd.prog env0 50 [.int .i64 (n : Nat)] [.str (decS n)] := by
 have hw := chr_dig n h
 have hd : decS n = ⟨[48 + UInt8.ofNat n].toArray⟩ := by unfold decS decB; rw [if_pos h]
 refine PC.of_va (T := tbe) eqf_ok tbm_ok rfl mixed Tryd.func50 rfl rfl (Nat.le_of_ble_eq_true rfl) ?_; intro Γ C WK LP fin h0 hW hC hB hR hLP hfin
 (try (conv => whnf)); (repeat ((first | refine qT ?_ | refine qF ?_ | refine qO ?_ | (with_reducible intro z hz); (first | (replace hz := hz (by omega); subst hz) | subst hz)); (try (conv => whnf))))
 refine Bytes.mk [48 + UInt8.ofNat n] (by rw [hw]; rfl) ?_
 intro s hs
 subst hs
 (try (conv => whnf)); (repeat ((first | refine qT ?_ | refine qF ?_ | refine qO ?_ | (with_reducible intro z hz); (first | (replace hz := hz (by omega); subst hz) | subst hz)); (try (conv => whnf))))
 rw [hd] at hfin
 exact hfin _ (ILes.refl _)
theorem dig_pc (n : Nat) (h : n < 100) : PC Tryd.prog env0 50 [.int .i64 (n : Nat)] [.str (decS n)] := by
 by_cases h10 : n < 10
 · exact dig1_pc n h10
 have h1 := dig1_pc (n / 10) (by omega)
 have h2 := dig1_pc (n % 10) (by omega)
 have e1 : ((n / 10 : Nat) : Int) = (n : Int).tdiv 10 := Int.ofNat_tdiv n 10
 have e2 : ((n % 10 : Nat) : Int) = (n : Int).tmod 10 := Int.ofNat_tmod n 10
 have hd : decS n = decS (n / 10) ++ decS (n % 10) := by
   have a1 : n / 10 < 10 := by omega
   have a2 : n % 10 < 10 := by omega
   unfold decS decB
   rw [if_neg h10, if_pos a1, if_pos a2]
   rfl
 have hs : (decS (n / 10)).size + (decS (n % 10)).size ≤ most := by
   have h3 : ∀ m, (decS m).size ≤ 2 := fun m => by
     unfold decS decB
     split <;> exact Nat.le_of_ble_eq_true rfl
   have := h3 (n / 10)
   have := h3 (n % 10)
   unfold most
   omega
 rw [e1] at h1
 rw [e2] at h2
 rw [hd]
 generalize decS (n / 10) = a at h1 hs ⊢
 generalize decS (n % 10) = b at h2 hs ⊢
 refine PC.of_va (T := tbe) eqf_ok tbm_ok rfl mixed Tryd.func50 rfl rfl (Nat.le_of_ble_eq_true rfl) ?_; intro Γ C WK LP fin h0 hW hC hB hR hLP hfin
 (try (conv => whnf)); (repeat ((first | refine qT ?_ | refine qF ?_ | refine qO ?_ | (with_reducible intro z hz); (first | (replace hz := hz (by omega); subst hz) | subst hz) | (refine CallV.mk _ (hC _ _ _ (PCw.of h1)) (fun js hjs => ?_); subst hjs) | (refine CallV.mk _ (hC _ _ _ (PCw.of h2)) (fun js hjs => ?_); subst hjs)); (try (conv => whnf))))
 exact hfin _ (ILes.refl _)
end Go.Proofs.YtkjgmnmngbfhhaaDoor.Pn
