/-
  The notes that are called; findings for anchors and for notes. The findings of a unit. Notes that nobody calls; all units of a tree.
-/
import Derived.Test.YtkjgmnmngbfhhaaDoorWFc
namespace Go.Proofs.YtkjgmnmngbfhhaaDoor.Pn
open Go Go.Pv Go.RowKit Go.Proofs.YtkjgmnmngbfhhaaDoor.Pb
set_option linter.unusedSimpArgs false
open Lab Lcs Go.Proofs.YtkjgmnmngbfhhaaDoor Go.Proofs.YtkjgmnmngbfhhaaDoor.Pu
set_option maxRecDepth 10000
set_option maxHeartbeats 16000000
def seenM (L : List Str) : List (IV × IV) := L.foldl (fun m s => putM m (.str s) (.bool true)) []
theorem seenM_snoc (L : List Str) (s : Str) : seenM (L ++ [s]) = putM (seenM L) (.str s) (.bool true) := by unfold seenM; rw [List.foldl_append]; rfl
def inB (s : Str) (L : List Str) : Bool := L.any fun x => decide (x = s)
theorem inB_snoc (s x : Str) (L : List Str) : inB s (L ++ [x]) = (inB s L || decide (x = s)) := by unfold inB; rw [List.any_append]; simp
theorem seen_look (L : List Str) (s : Str) : lookM (seenM L) (.str s) = if inB s L then some (.bool true) else none := by
 have : ∀ (n : Nat) (L : List Str), L.length = n → lookM (seenM L) (.str s) = if inB s L then some (.bool true) else none := by
   intro n
   induction n with
   | zero => intro L hL; obtain rfl := List.eq_nil_of_length_eq_zero hL; rfl
   | succ n ih =>
     intro L hL
     obtain ⟨r, x, rfl⟩ : ∃ r x, L = r ++ [x] := ⟨L.dropLast, L.getLast (by intro h; subst h; simp at hL), (List.dropLast_concat_getLast _).symm⟩
     rw [seenM_snoc, lookM_putS, ih r (by simpa using hL), inB_snoc]
     by_cases h : x = s
     · rw [if_pos h, decide_eq_true h, Bool.or_true]; rfl
     · rw [if_neg h, decide_eq_false h, Bool.or_false]
 exact this _ L rfl
theorem seen_get (L : List Str) (s : Str) : (lookM (seenM L) (.str s)).getD (.bool false) = .bool (inB s L) := by
 rw [seen_look]
 cases h : inB s L <;> simp
def iv (l : List Nat) : List IV := l.map fun n => .int .i64 (n : Nat)
def callStep (kids : List Ut) (p : List Nat × List Str) (a : Nat × Str) : List Nat × List Str := (p.1 ++ (if inB a.2 p.2 then [] else (noteO kids a.2).toList), p.2 ++ [a.2])
theorem call_seen (kids : List Ut) : ∀ (l : List (Nat × Str)) (p : List Nat × List Str), (l.foldl (callStep kids) p).2 = p.2 ++ l.map Prod.snd
 | [], p => by simp
 | a :: l, p => by
   rw [List.foldl_cons, call_seen kids l]
   simp [callStep]
def callsL (kids : List Ut) (l : List (Nat × Str)) : List Nat := (l.foldl (callStep kids) ([], [])).1
theorem callsL_snoc (kids : List Ut) (l : List (Nat × Str)) (a : Nat × Str) : callsL kids (l ++ [a]) = callsL kids l ++ (if inB a.2 (l.map Prod.snd) then [] else (noteO kids a.2).toList) := by
 unfold callsL
 rw [List.foldl_append]
 have h := call_seen kids l ([], [])
 generalize l.foldl (callStep kids) ([], []) = p at h ⊢
 show p.1 ++ (if inB a.2 p.2 then [] else (noteO kids a.2).toList) = _
 rw [h, List.nil_append]
theorem callsL_len (kids : List Ut) (l : List (Nat × Str)) : (callsL kids l).length ≤ l.length := by
 have : ∀ (n : Nat) (l : List (Nat × Str)), l.length = n → (callsL kids l).length ≤ n := by
   intro n
   induction n with
   | zero => intro l hl; obtain rfl := List.eq_nil_of_length_eq_zero hl; exact Nat.le_refl _
   | succ n ih =>
     intro l hl
     obtain ⟨r, x, rfl⟩ : ∃ r x, l = r ++ [x] := ⟨l.dropLast, l.getLast (by intro h; subst h; simp at hl), (List.dropLast_concat_getLast _).symm⟩
     have := ih r (by simpa using hl)
     rw [callsL_snoc, List.length_append]
     have h2 : (if inB x.2 (r.map Prod.snd) then [] else (noteO kids x.2).toList).length ≤ 1 := by
       split
       · simp
       · cases noteO kids x.2 <;> simp
     omega
 exact this _ l rfl
def callN (u : Ut) : List Nat := callsL u.kids (ancL u.words)
theorem called_pcr (u : Ut) (h : Ok1 u) : PCR Tryd.prog env0 46 [uv u] 3 1 (iv (callN u)) := by
 have hA := (anchors_pcr u h).pc
 have hM := callable_pcb u h
 have hue := uv_eq u
 have hal := ancL_len u.words
 have hl := h.1
 have hml : ((ancL u.words).map ancV).length = (ancL u.words).length := List.length_map _
 unfold callN
 generalize hls : ancL u.words = l at hA hal hml ⊢
 rw [hue] at hA hM ⊢
 refine PCR.of_va (T := tb0) eqs_ok tb_ok rfl mixed Tryd.func46 rfl rfl (Nat.le_of_ble_eq_true rfl) rfl ?_; intro Γ C WK LP fin h0 hW hC hB hR hLP hfin
 (try (conv => whnf)); (repeat ((first | refine qT ?_ | refine qF ?_ | refine qO ?_ | (with_reducible intro z hz); (first | (replace hz := hz (by omega); subst hz) | subst hz)); (try (conv => whnf))))
 refine CallB.mk ([.row 0 2]) ([.map .str 2 (noteM [] 0 u.kids)]) (hB _ _ _ _ _ (hM)) ?_
 (try (conv => whnf)); (repeat ((first | refine qT ?_ | refine qF ?_ | refine qO ?_ | (with_reducible intro z hz); (first | (replace hz := hz (by omega); subst hz) | subst hz) | (refine CallV.mk _ (hC _ _ _ (PCw.of hA)) (fun js hjs => ?_); subst hjs)); (try (conv => whnf))))
 refine hLP _ _ _ Nat (fun k => ⟨[(3, .row 1 1), (4, .row 2 1), (5, .row 4 1), (14, .imm (.sl 2 (l.map ancV))), (15, .imm (.int .i64 (l.length : Nat))), (16, .imm (.int .i64 (k : Nat)))], [.box 1 [.imm (.int .i64 u.id.x), .imm (.int .i64 u.id.y), .imm (.int .i64 u.id.z), .imm (.int .i64 u.kind), .imm (.str u.label), .imm (.sl 4 (u.head.map wdv)), .imm (.sl 4 (u.words.map wdv)), .imm (.sl 8 (u.kids.map uv))], .map .str 1 (noteM [] 0 u.kids), .map .str 1 (seenM ((l.take k).map Prod.snd)), .dead 0, .row 3 1 1 ((iv (callsL u.kids (l.take k))).map .imm)]⟩) (fun k => k ≤ l.length) (fun k => l.length - k) 0 (Nat.zero_le _) (((WeakA.nilSlot 5 3 1 (Nat.le_of_ble_eq_true rfl) rfl)).trans (((WeakA.row 4 (((iv (callsL u.kids (l.take 0))).map .imm)) rfl (by simp [iv, callsL]))).trans (qSL 5 rfl rfl (hE := by (repeat ((conv => whnf); first | exact trivial | refine And.intro (by first | exact WkOne.any | exact WkOne.eq (by with_reducible rfl) rfl | exact WkOne.eq (congrArg (fun z => PV.imm (IV.int IntKind.i64 z)) (by first | omega | (simp [hml]; done) | (simp [hml]; omega))) rfl | exact WkOne.eq (by first | (simp [hml]; done) | fail) rfl | exact WkOne.eq rfl rfl | exact WkOne.le rfl (ILe.nil _)) ?_)))))) ?_
 intro k hk
 have hho := Nat.lt_or_ge k l.length
 cases hho with
 | inr hge =>
   obtain rfl : k = l.length := by omega
   rw [List.take_length]
   (try (conv => whnf)); (repeat ((first | refine qT ?_ | refine qF ?_ | refine qO ?_ | (with_reducible intro z hz); (first | (replace hz := hz (by omega); subst hz) | subst hz)); (try (conv => whnf))))
   exact hfin _ _ _ _ (WeakA.refl _) rfl
 | inl hlt =>
   obtain ⟨a, ha⟩ : ∃ a, l[k]? = some a := ⟨l[k], List.getElem?_eq_getElem hlt⟩
   have hsn := callsL_snoc u.kids (l.take k) a
   rw [← take_at ha] at hsn
   have hmn := seenM_snoc ((l.take k).map Prod.snd) a.2
   have hmap : (l.take (k + 1)).map Prod.snd = (l.take k).map Prod.snd ++ [a.2] := by rw [take_at ha, List.map_append]; rfl
   rw [← hmap] at hmn
   have hlo := noteM_look u.kids a.2
   have hse := seen_get ((l.take k).map Prod.snd) a.2
   have hRl : ((iv (callsL u.kids (l.take k))).map PV.imm).length ≤ k := by
     unfold iv
     rw [List.length_map, List.length_map]
     have := callsL_len u.kids (l.take k)
     rw [List.length_take] at this
     omega
   have hOw : ((iv (callsL u.kids (l.take k))).map PV.imm).length + 1 ≤ most := by unfold most; omega
   cases hno : noteO u.kids a.2 with
   | none =>
     rw [hno] at hlo hsn
     have hsn2 : callsL u.kids (l.take k) = callsL u.kids (l.take (k + 1)) := by rw [hsn]; split <;> simp
     (try (conv => whnf)); (repeat ((first | refine qT ?_ | refine qF ?_ | refine qO ?_ | (with_reducible intro z hz); (first | (replace hz := hz (by omega); subst hz) | subst hz)); (try (conv => whnf))))
     refine Idx.mk k (ancV a) _ rfl (by simp [ha]) rfl ?_
     (try (conv => whnf)); (repeat ((first | refine qT ?_ | refine qF ?_ | refine qO ?_ | (with_reducible intro z hz); (first | (replace hz := hz (by omega); subst hz) | subst hz)); (try (conv => whnf))))
     refine LookK.mk (.int .i64 0) false (by rw [hlo]; rfl) (by rw [hlo]; rfl) ?_
     (try (conv => whnf)); (repeat ((first | refine qT ?_ | refine qF ?_ | refine qO ?_ | (with_reducible intro z hz); (first | (replace hz := hz (by omega); subst hz) | subst hz)); (try (conv => whnf))))
     exact ⟨k + 1, by omega, by dsimp only; omega, ((WeakA.mapTo 2 ((seenM ((l.take (k + 1)).map Prod.snd))) rfl (by exact hmn.symm))).trans (((WeakA.row 4 (((iv (callsL u.kids (l.take (k + 1)))).map .imm)) rfl (by rw [hsn2]))).trans (qSL 5 rfl rfl))⟩
   | some j =>
     rw [hno] at hlo hsn
     cases hin : inB a.2 ((l.take k).map Prod.snd)
     rotate_left
     · rw [hin] at hse hsn
       rw [if_pos rfl, List.append_nil] at hsn
       (try (conv => whnf)); (repeat ((first | refine qT ?_ | refine qF ?_ | refine qO ?_ | (with_reducible intro z hz); (first | (replace hz := hz (by omega); subst hz) | subst hz)); (try (conv => whnf))))
       refine Idx.mk k (ancV a) _ rfl (by simp [ha]) rfl ?_
       (try (conv => whnf)); (repeat ((first | refine qT ?_ | refine qF ?_ | refine qO ?_ | (with_reducible intro z hz); (first | (replace hz := hz (by omega); subst hz) | subst hz)); (try (conv => whnf))))
       refine LookK.mk (.int .i64 (j : Nat)) true (by rw [hlo]; rfl) (by rw [hlo]; rfl) ?_
       (try (conv => whnf)); (repeat ((first | refine qT ?_ | refine qF ?_ | refine qO ?_ | (with_reducible intro z hz); (first | (replace hz := hz (by omega); subst hz) | subst hz)); (try (conv => whnf))))
       refine LookK.mk (.bool true) _ hse rfl ?_
       (try (conv => whnf)); (repeat ((first | refine qT ?_ | refine qF ?_ | refine qO ?_ | (with_reducible intro z hz); (first | (replace hz := hz (by omega); subst hz) | subst hz)); (try (conv => whnf))))
       exact ⟨k + 1, by omega, by dsimp only; omega, ((WeakA.mapTo 2 ((seenM ((l.take (k + 1)).map Prod.snd))) rfl (by exact hmn.symm))).trans (((WeakA.row 4 (((iv (callsL u.kids (l.take (k + 1)))).map .imm)) rfl (by rw [hsn]))).trans (qSL 5 rfl rfl))⟩
     · rw [hin] at hse hsn
       rw [if_neg (by simp)] at hsn
       (try (conv => whnf)); (repeat ((first | refine qT ?_ | refine qF ?_ | refine qO ?_ | (with_reducible intro z hz); (first | (replace hz := hz (by omega); subst hz) | subst hz)); (try (conv => whnf))))
       refine Idx.mk k (ancV a) _ rfl (by simp [ha]) rfl ?_
       (try (conv => whnf)); (repeat ((first | refine qT ?_ | refine qF ?_ | refine qO ?_ | (with_reducible intro z hz); (first | (replace hz := hz (by omega); subst hz) | subst hz)); (try (conv => whnf))))
       refine LookK.mk (.int .i64 (j : Nat)) true (by rw [hlo]; rfl) (by rw [hlo]; rfl) ?_
       (try (conv => whnf)); (repeat ((first | refine qT ?_ | refine qF ?_ | refine qO ?_ | (with_reducible intro z hz); (first | (replace hz := hz (by omega); subst hz) | subst hz)); (try (conv => whnf))))
       refine LookK.mk (.bool false) _ hse rfl ?_
       (try (conv => whnf)); (repeat ((first | refine qT ?_ | refine qF ?_ | refine qO ?_ | (with_reducible intro z hz); (first | (replace hz := hz (by omega); subst hz) | subst hz)); (try (conv => whnf))))
       exact ⟨k + 1, by omega, by dsimp only; omega, ((WeakA.mapTo 2 ((seenM ((l.take (k + 1)).map Prod.snd))) rfl (by exact hmn.symm))).trans (((WeakA.row 4 (((iv (callsL u.kids (l.take (k + 1)))).map .imm)) rfl (by rw [hsn]; simp [iv]))).trans ((WeakA.renew 4 1 rfl (by first | omega | (intro _; rw [hk0 _ _ rfl]; exact Nat.le_of_ble_eq_true rfl)) (by repeat (first | exact trivial | refine And.intro (rgL_imms _ _ _ _) ?_ | refine And.intro rfl ?_))).trans (qSL 5 rfl rfl)))⟩
end Go.Proofs.YtkjgmnmngbfhhaaDoor.Pn
namespace Go.Proofs.YtkjgmnmngbfhhaaDoor.Pn
open Go Go.Pv Go.RowKit Go.Proofs.YtkjgmnmngbfhhaaDoor.Pb
set_option linter.unusedSimpArgs false
open Lab Lcs Go.Proofs.YtkjgmnmngbfhhaaDoor Go.Proofs.YtkjgmnmngbfhhaaDoor.Pu
set_option maxRecDepth 10000
set_option maxHeartbeats 16000000
structure Fd where
 at_ : Nat
 id : Trip
 why : Int
 text : Str
 deriving DecidableEq
def fdl (f : Fd) : List IV := [.int .i64 (f.at_ : Nat), .int .i64 f.id.x, .int .i64 f.id.y, .int .i64 f.id.z, .int .i64 f.why, .str f.text]
def fdv (f : Fd) : IV := .agg (fdl f)
def badA (u : Ut) (seen : List Str) (a : Nat × Str) : List Fd := if inB a.2 seen then [⟨a.1, u.id, 5, a.2⟩] else match noteO u.kids a.2 with
 | some _ => []
 | none => [⟨a.1, u.id, 4, a.2⟩]
def badL (u : Ut) : List Str → List (Nat × Str) → List Fd
 | _, [] => []
 | seen, a :: r => badA u seen a ++ badL u (seen ++ [a.2]) r
theorem badL_app (u : Ut) : ∀ (l r : List (Nat × Str)) (seen : List Str), badL u seen (l ++ r) = badL u seen l ++ badL u (seen ++ l.map Prod.snd) r
 | [], r, seen => by simp [badL]
 | a :: l, r, seen => by
   simp only [List.cons_append, badL, List.map_cons]
   rw [badL_app u l r]
   simp
theorem badL_snoc (u : Ut) (l : List (Nat × Str)) (a : Nat × Str) : badL u [] (l ++ [a]) = badL u [] l ++ badA u (l.map Prod.snd) a := by
 rw [badL_app]
 simp [badL]
theorem badA_len (u : Ut) (seen : List Str) (a : Nat × Str) : (badA u seen a).length ≤ 1 := by
 unfold badA
 split
 · simp
 · split <;> simp
theorem badL_len (u : Ut) : ∀ (l : List (Nat × Str)) (seen : List Str), (badL u seen l).length ≤ l.length
 | [], _ => Nat.le_refl _
 | a :: l, seen => by
   simp only [badL, List.length_append, List.length_cons]
   have := badA_len u seen a
   have := badL_len u l (seen ++ [a.2])
   omega
def faultN (u : Ut) : List Fd := badL u [] (ancL u.words)
theorem report_pcb (u : Ut) (a : Nat × Str) (why : Int) (L : List Fd) (hL : L.length ≤ 1000000) : PCB Tryd.prog env0 56 [.imm (ancV a), .imm (.int .i64 why), .ptr 0 1 0, .ptr 1 1 0] [.box 1 [.row 2 1], .box 1 [.imm (.int .i64 u.id.x), .imm (.int .i64 u.id.y), .imm (.int .i64 u.id.z), .imm (.int .i64 u.kind), .imm (.str u.label), .imm (.sl 4 (u.head.map wdv)), .imm (.sl 4 (u.words.map wdv)), .imm (.sl 8 (u.kids.map uv))], .row 66 6 1 ((L.map fdv).map .imm)] [] [.box 1 [.row 2 2], .box 1 [.imm (.int .i64 u.id.x), .imm (.int .i64 u.id.y), .imm (.int .i64 u.id.z), .imm (.int .i64 u.kind), .imm (.str u.label), .imm (.sl 4 (u.head.map wdv)), .imm (.sl 4 (u.words.map wdv)), .imm (.sl 8 (u.kids.map uv))], .row 66 6 2 (((L ++ [Fd.mk a.1 u.id why a.2]).map fdv).map .imm)] := by
 have hRl : ((L.map fdv).map PV.imm).length = L.length := by simp
 have hOw : ((L.map fdv).map PV.imm).length + 1 ≤ most := by unfold most; omega
 refine PCB.of_va (T := tb0) eqs_ok tb_ok rfl mixed Tryd.func56 rfl rfl rfl (Nat.le_of_ble_eq_true rfl) rfl ?_; intro Γ C WK LP fin h0 hk0 hW hC hB hR hLP hfin
 (try (conv => whnf)); (repeat ((first | refine qT ?_ | refine qF ?_ | refine qO ?_ | (with_reducible intro z hz); (first | (replace hz := hz (by omega); subst hz) | subst hz)); (try (conv => whnf))))
 exact hfin _ (((WeakA.row 2 ((((L ++ [Fd.mk a.1 u.id why a.2]).map fdv).map .imm)) rfl (by simp [fdv, fdl]))).trans (qSL 3 rfl rfl))
theorem faulty_pcr (u : Ut) (h : Ok1 u) : PCR Tryd.prog env0 43 [uv u] 66 6 ((faultN u).map fdv) := by
 have hA := (anchors_pcr u h).pc
 have hM := callable_pcb u h
 have hue := uv_eq u
 have hal := ancL_len u.words
 have hl := h.1
 have hml : ((ancL u.words).map ancV).length = (ancL u.words).length := List.length_map _
 unfold faultN
 generalize hls : ancL u.words = l at hA hal hml ⊢
 rw [hue] at hA hM ⊢
 refine PCR.of_va (T := tb0) eqs_ok tb_ok rfl mixed Tryd.func43 rfl rfl (Nat.le_of_ble_eq_true rfl) rfl ?_; intro Γ C WK LP fin h0 hW hC hB hR hLP hfin
 (try (conv => whnf)); (repeat ((first | refine qT ?_ | refine qF ?_ | refine qO ?_ | (with_reducible intro z hz); (first | (replace hz := hz (by omega); subst hz) | subst hz)); (try (conv => whnf))))
 refine CallB.mk ([.row 0 2]) ([.map .str 2 (noteM [] 0 u.kids)]) (hB _ _ _ _ _ (hM)) ?_
 (try (conv => whnf)); (repeat ((first | refine qT ?_ | refine qF ?_ | refine qO ?_ | (with_reducible intro z hz); (first | (replace hz := hz (by omega); subst hz) | subst hz) | (refine CallV.mk _ (hC _ _ _ (PCw.of hA)) (fun js hjs => ?_); subst hjs)); (try (conv => whnf))))
 refine hLP _ _ _ Nat (fun k => ⟨[(1, .ptr 0 1 0), (3, .row 1 1), (4, .row 2 1), (5, .ptr 3 1 0), (6, .clo 56 [.ptr 3 1 0, .ptr 0 1 0]), (16, .imm (.sl 2 (l.map ancV))), (17, .imm (.int .i64 (l.length : Nat))), (18, .imm (.int .i64 (k : Nat)))], [.box 1 [.imm (.int .i64 u.id.x), .imm (.int .i64 u.id.y), .imm (.int .i64 u.id.z), .imm (.int .i64 u.kind), .imm (.str u.label), .imm (.sl 4 (u.head.map wdv)), .imm (.sl 4 (u.words.map wdv)), .imm (.sl 8 (u.kids.map uv))], .map .str 1 (noteM [] 0 u.kids), .map .str 1 (seenM ((l.take k).map Prod.snd)), .box 1 [.row 5 1], .dead 0, .row 66 6 1 (((badL u [] (l.take k)).map fdv).map .imm)]⟩) (fun k => k ≤ l.length) (fun k => l.length - k) 0 (Nat.zero_le _) (((WeakA.nilBox 3 0 66 6 rfl rfl)).trans (((WeakA.row 5 ((((badL u [] (l.take 0)).map fdv).map .imm)) rfl (by simp [badL]))).trans (qSL 6 rfl rfl (hE := by (repeat ((conv => whnf); first | exact trivial | refine And.intro (by first | exact WkOne.any | exact WkOne.eq (by with_reducible rfl) rfl | exact WkOne.eq (congrArg (fun z => PV.imm (IV.int IntKind.i64 z)) (by first | omega | (simp [hml]; done) | (simp [hml]; omega))) rfl | exact WkOne.eq (by first | (simp [hml]; done) | fail) rfl | exact WkOne.eq rfl rfl | exact WkOne.le rfl (ILe.nil _)) ?_)))))) ?_
 intro k hk
 have hho := Nat.lt_or_ge k l.length
 cases hho with
 | inr hge =>
   obtain rfl : k = l.length := by omega
   rw [List.take_length]
   (try (conv => whnf)); (repeat ((first | refine qT ?_ | refine qF ?_ | refine qO ?_ | (with_reducible intro z hz); (first | (replace hz := hz (by omega); subst hz) | subst hz)); (try (conv => whnf))))
   exact hfin _ _ _ _ (WeakA.refl _) rfl
 | inl hlt =>
   obtain ⟨a, ha⟩ : ∃ a, l[k]? = some a := ⟨l[k], List.getElem?_eq_getElem hlt⟩
   have hsn := badL_snoc u (l.take k) a
   rw [← take_at ha] at hsn
   have hmn := seenM_snoc ((l.take k).map Prod.snd) a.2
   have hmap : (l.take (k + 1)).map Prod.snd = (l.take k).map Prod.snd ++ [a.2] := by rw [take_at ha, List.map_append]; rfl
   rw [← hmap] at hmn
   have hlo := noteM_look u.kids a.2
   have hse := seen_get ((l.take k).map Prod.snd) a.2
   have hbl := badL_len u (l.take k) []
   rw [List.length_take] at hbl
   have hR := report_pcb u a
   unfold badA at hsn
   cases hin : inB a.2 ((l.take k).map Prod.snd)
   rotate_left
   · rw [hin] at hse hsn
     rw [if_pos rfl] at hsn
     cases hno : noteO u.kids a.2 with
     | none =>
       rw [hno] at hlo
       (try (conv => whnf)); (repeat ((first | refine qT ?_ | refine qF ?_ | refine qO ?_ | (with_reducible intro z hz); (first | (replace hz := hz (by omega); subst hz) | subst hz)); (try (conv => whnf))))
       refine Idx.mk k (ancV a) _ rfl (by simp [ha]) rfl ?_
       (try (conv => whnf)); (repeat ((first | refine qT ?_ | refine qF ?_ | refine qO ?_ | (with_reducible intro z hz); (first | (replace hz := hz (by omega); subst hz) | subst hz)); (try (conv => whnf))))
       refine LookK.mk (.int .i64 0) false (by rw [hlo]; rfl) (by rw [hlo]; rfl) ?_
       (try (conv => whnf)); (repeat ((first | refine qT ?_ | refine qF ?_ | refine qO ?_ | (with_reducible intro z hz); (first | (replace hz := hz (by omega); subst hz) | subst hz)); (try (conv => whnf))))
       refine LookK.mk (.bool true) _ hse rfl ?_
       (try (conv => whnf)); (repeat ((first | refine qT ?_ | refine qF ?_ | refine qO ?_ | (with_reducible intro z hz); (first | (replace hz := hz (by omega); subst hz) | subst hz)); (try (conv => whnf))))
       refine Imms.mk ((badL u [] (l.take k)).map fdv) rfl ?_
       (try (conv => whnf)); (repeat ((first | refine qT ?_ | refine qF ?_ | refine qO ?_ | (with_reducible intro z hz); (first | (replace hz := hz (by omega); subst hz) | subst hz)); (try (conv => whnf))))
       refine CallB.mk ([]) ([.box 1 [.row 2 2], .box 1 [.imm (.int .i64 u.id.x), .imm (.int .i64 u.id.y), .imm (.int .i64 u.id.z), .imm (.int .i64 u.kind), .imm (.str u.label), .imm (.sl 4 (u.head.map wdv)), .imm (.sl 4 (u.words.map wdv)), .imm (.sl 8 (u.kids.map uv))], .row 66 6 2 ((badL u [] (l.take k) ++ [Fd.mk a.1 u.id 5 a.2]).map fdv)]) (hB _ _ _ _ _ (hR 5 (badL u [] (l.take k)) (by omega))) ?_
       (try (conv => whnf)); (repeat ((first | refine qT ?_ | refine qF ?_ | refine qO ?_ | (with_reducible intro z hz); (first | (replace hz := hz (by omega); subst hz) | subst hz)); (try (conv => whnf))))
       exact ⟨k + 1, by omega, by dsimp only; omega, ((WeakA.mapTo 2 ((seenM ((l.take (k + 1)).map Prod.snd))) rfl (by exact hmn.symm))).trans (((WeakA.row 5 ((((badL u [] (l.take (k + 1))).map fdv).map .imm)) rfl (by rw [hsn]))).trans ((WeakA.renew 5 1 rfl (by first | omega | (intro _; rw [hk0 _ _ rfl]; exact Nat.le_of_ble_eq_true rfl)) (by repeat (first | exact trivial | refine And.intro (rgL_imms _ _ _ _) ?_ | refine And.intro rfl ?_))).trans (qSL 6 rfl rfl)))⟩
     | some j =>
       rw [hno] at hlo
       (try (conv => whnf)); (repeat ((first | refine qT ?_ | refine qF ?_ | refine qO ?_ | (with_reducible intro z hz); (first | (replace hz := hz (by omega); subst hz) | subst hz)); (try (conv => whnf))))
       refine Idx.mk k (ancV a) _ rfl (by simp [ha]) rfl ?_
       (try (conv => whnf)); (repeat ((first | refine qT ?_ | refine qF ?_ | refine qO ?_ | (with_reducible intro z hz); (first | (replace hz := hz (by omega); subst hz) | subst hz)); (try (conv => whnf))))
       refine LookK.mk (.int .i64 (j : Nat)) true (by rw [hlo]; rfl) (by rw [hlo]; rfl) ?_
       (try (conv => whnf)); (repeat ((first | refine qT ?_ | refine qF ?_ | refine qO ?_ | (with_reducible intro z hz); (first | (replace hz := hz (by omega); subst hz) | subst hz)); (try (conv => whnf))))
       refine LookK.mk (.bool true) _ hse rfl ?_
       (try (conv => whnf)); (repeat ((first | refine qT ?_ | refine qF ?_ | refine qO ?_ | (with_reducible intro z hz); (first | (replace hz := hz (by omega); subst hz) | subst hz)); (try (conv => whnf))))
       refine Imms.mk ((badL u [] (l.take k)).map fdv) rfl ?_
       (try (conv => whnf)); (repeat ((first | refine qT ?_ | refine qF ?_ | refine qO ?_ | (with_reducible intro z hz); (first | (replace hz := hz (by omega); subst hz) | subst hz)); (try (conv => whnf))))
       refine CallB.mk ([]) ([.box 1 [.row 2 2], .box 1 [.imm (.int .i64 u.id.x), .imm (.int .i64 u.id.y), .imm (.int .i64 u.id.z), .imm (.int .i64 u.kind), .imm (.str u.label), .imm (.sl 4 (u.head.map wdv)), .imm (.sl 4 (u.words.map wdv)), .imm (.sl 8 (u.kids.map uv))], .row 66 6 2 ((badL u [] (l.take k) ++ [Fd.mk a.1 u.id 5 a.2]).map fdv)]) (hB _ _ _ _ _ (hR 5 (badL u [] (l.take k)) (by omega))) ?_
       (try (conv => whnf)); (repeat ((first | refine qT ?_ | refine qF ?_ | refine qO ?_ | (with_reducible intro z hz); (first | (replace hz := hz (by omega); subst hz) | subst hz)); (try (conv => whnf))))
       exact ⟨k + 1, by omega, by dsimp only; omega, ((WeakA.mapTo 2 ((seenM ((l.take (k + 1)).map Prod.snd))) rfl (by exact hmn.symm))).trans (((WeakA.row 5 ((((badL u [] (l.take (k + 1))).map fdv).map .imm)) rfl (by rw [hsn]))).trans ((WeakA.renew 5 1 rfl (by first | omega | (intro _; rw [hk0 _ _ rfl]; exact Nat.le_of_ble_eq_true rfl)) (by repeat (first | exact trivial | refine And.intro (rgL_imms _ _ _ _) ?_ | refine And.intro rfl ?_))).trans (qSL 6 rfl rfl)))⟩
   · rw [hin] at hse hsn
     rw [if_neg (by simp)] at hsn
     cases hno : noteO u.kids a.2 with
     | none =>
       rw [hno] at hlo hsn
       (try (conv => whnf)); (repeat ((first | refine qT ?_ | refine qF ?_ | refine qO ?_ | (with_reducible intro z hz); (first | (replace hz := hz (by omega); subst hz) | subst hz)); (try (conv => whnf))))
       refine Idx.mk k (ancV a) _ rfl (by simp [ha]) rfl ?_
       (try (conv => whnf)); (repeat ((first | refine qT ?_ | refine qF ?_ | refine qO ?_ | (with_reducible intro z hz); (first | (replace hz := hz (by omega); subst hz) | subst hz)); (try (conv => whnf))))
       refine LookK.mk (.int .i64 0) false (by rw [hlo]; rfl) (by rw [hlo]; rfl) ?_
       (try (conv => whnf)); (repeat ((first | refine qT ?_ | refine qF ?_ | refine qO ?_ | (with_reducible intro z hz); (first | (replace hz := hz (by omega); subst hz) | subst hz)); (try (conv => whnf))))
       refine LookK.mk (.bool false) _ hse rfl ?_
       (try (conv => whnf)); (repeat ((first | refine qT ?_ | refine qF ?_ | refine qO ?_ | (with_reducible intro z hz); (first | (replace hz := hz (by omega); subst hz) | subst hz)); (try (conv => whnf))))
       refine Imms.mk ((badL u [] (l.take k)).map fdv) rfl ?_
       (try (conv => whnf)); (repeat ((first | refine qT ?_ | refine qF ?_ | refine qO ?_ | (with_reducible intro z hz); (first | (replace hz := hz (by omega); subst hz) | subst hz)); (try (conv => whnf))))
       refine CallB.mk ([]) ([.box 1 [.row 2 2], .box 1 [.imm (.int .i64 u.id.x), .imm (.int .i64 u.id.y), .imm (.int .i64 u.id.z), .imm (.int .i64 u.kind), .imm (.str u.label), .imm (.sl 4 (u.head.map wdv)), .imm (.sl 4 (u.words.map wdv)), .imm (.sl 8 (u.kids.map uv))], .row 66 6 2 ((badL u [] (l.take k) ++ [Fd.mk a.1 u.id 4 a.2]).map fdv)]) (hB _ _ _ _ _ (hR 4 (badL u [] (l.take k)) (by omega))) ?_
       (try (conv => whnf)); (repeat ((first | refine qT ?_ | refine qF ?_ | refine qO ?_ | (with_reducible intro z hz); (first | (replace hz := hz (by omega); subst hz) | subst hz)); (try (conv => whnf))))
       exact ⟨k + 1, by omega, by dsimp only; omega, ((WeakA.mapTo 2 ((seenM ((l.take (k + 1)).map Prod.snd))) rfl (by exact hmn.symm))).trans (((WeakA.row 5 ((((badL u [] (l.take (k + 1))).map fdv).map .imm)) rfl (by rw [hsn]))).trans ((WeakA.renew 5 1 rfl (by first | omega | (intro _; rw [hk0 _ _ rfl]; exact Nat.le_of_ble_eq_true rfl)) (by repeat (first | exact trivial | refine And.intro (rgL_imms _ _ _ _) ?_ | refine And.intro rfl ?_))).trans (qSL 6 rfl rfl)))⟩
     | some j =>
       rw [hno] at hlo hsn
       rw [List.append_nil] at hsn
       (try (conv => whnf)); (repeat ((first | refine qT ?_ | refine qF ?_ | refine qO ?_ | (with_reducible intro z hz); (first | (replace hz := hz (by omega); subst hz) | subst hz)); (try (conv => whnf))))
       refine Idx.mk k (ancV a) _ rfl (by simp [ha]) rfl ?_
       (try (conv => whnf)); (repeat ((first | refine qT ?_ | refine qF ?_ | refine qO ?_ | (with_reducible intro z hz); (first | (replace hz := hz (by omega); subst hz) | subst hz)); (try (conv => whnf))))
       refine LookK.mk (.int .i64 (j : Nat)) true (by rw [hlo]; rfl) (by rw [hlo]; rfl) ?_
       (try (conv => whnf)); (repeat ((first | refine qT ?_ | refine qF ?_ | refine qO ?_ | (with_reducible intro z hz); (first | (replace hz := hz (by omega); subst hz) | subst hz)); (try (conv => whnf))))
       refine LookK.mk (.bool false) _ hse rfl ?_
       (try (conv => whnf)); (repeat ((first | refine qT ?_ | refine qF ?_ | refine qO ?_ | (with_reducible intro z hz); (first | (replace hz := hz (by omega); subst hz) | subst hz)); (try (conv => whnf))))
       exact ⟨k + 1, by omega, by dsimp only; omega, ((WeakA.mapTo 2 ((seenM ((l.take (k + 1)).map Prod.snd))) rfl (by exact hmn.symm))).trans (((WeakA.row 5 ((((badL u [] (l.take (k + 1))).map fdv).map .imm)) rfl (by rw [hsn]))).trans (qSL 6 rfl rfl))⟩
end Go.Proofs.YtkjgmnmngbfhhaaDoor.Pn
namespace Go.Proofs.YtkjgmnmngbfhhaaDoor.Pn
open Go Go.Pv Go.RowKit Go.Proofs.YtkjgmnmngbfhhaaDoor.Pb
set_option linter.unusedSimpArgs false
open Lab Lcs Go.Proofs.YtkjgmnmngbfhhaaDoor Go.Proofs.YtkjgmnmngbfhhaaDoor.Pu
set_option maxRecDepth 10000
set_option maxHeartbeats 16000000
def idxM (l : List Nat) : List (IV × IV) := l.foldl (fun m n => putM m (.int .i64 (n : Nat)) (.bool true)) []
theorem idxM_snoc (l : List Nat) (n : Nat) : idxM (l ++ [n]) = putM (idxM l) (.int .i64 (n : Nat)) (.bool true) := by unfold idxM; rw [List.foldl_append]; rfl
theorem idx_look (l : List Nat) (n : Nat) : lookM (idxM l) (.int .i64 (n : Nat)) = if n ∈ l then some (.bool true) else none := by
 have : ∀ (m : Nat) (l : List Nat), l.length = m → lookM (idxM l) (.int .i64 (n : Nat)) = if n ∈ l then some (.bool true) else none := by
   intro m
   induction m with
   | zero => intro L hL; obtain rfl := List.eq_nil_of_length_eq_zero hL; rfl
   | succ m ih =>
     intro L hL
     obtain ⟨r, x, rfl⟩ : ∃ r x, L = r ++ [x] := ⟨L.dropLast, L.getLast (by intro h; subst h; simp at hL), (List.dropLast_concat_getLast _).symm⟩
     rw [idxM_snoc, lookM_putI, ih r (by simpa using hL)]
     by_cases h : x = n
     · subst h; simp
     · have h2 : ¬ ((x : Int) = (n : Int)) := by omega
       rw [if_neg h2]
       simp [Ne.symm h]
 exact this _ l rfl
theorem idx_get (l : List Nat) (n : Nat) : (lookM (idxM l) (.int .i64 (n : Nat))).getD (.bool false) = .bool (decide (n ∈ l)) := by
 rw [idx_look]
 by_cases h : n ∈ l <;> simp [h]
def lostA (c : List Nat) (k : Nat) (x : Ut) : List Fd := if x.kind = 7 ∧ k ∉ c then [⟨k, x.id, 7, x.label⟩] else []
def lostL (c : List Nat) : Nat → List Ut → List Fd
 | _, [] => []
 | k, x :: r => lostA c k x ++ lostL c (k + 1) r
theorem lostL_app (c : List Nat) : ∀ (l r : List Ut) (k : Nat), lostL c k (l ++ r) = lostL c k l ++ lostL c (k + l.length) r
 | [], r, k => by simp [lostL]
 | x :: l, r, k => by
   simp only [List.cons_append, lostL, List.length_cons]
   rw [lostL_app c l r, List.append_assoc, show k + 1 + l.length = k + (l.length + 1) by omega]
theorem lostL_snoc (c : List Nat) (l : List Ut) (x : Ut) : lostL c 0 (l ++ [x]) = lostL c 0 l ++ lostA c l.length x := by
 rw [lostL_app]
 simp [lostL]
theorem lostL_len (c : List Nat) : ∀ (l : List Ut) (k : Nat), (lostL c k l).length ≤ l.length
 | [], _ => Nat.le_refl _
 | x :: l, k => by
   simp only [lostL, List.length_append, List.length_cons]
   have := lostL_len c l (k + 1)
   have h2 : (lostA c k x).length ≤ 1 := by unfold lostA; split <;> simp
   omega
def lostN (u : Ut) : List Fd := lostL (callN u) 0 u.kids
theorem callN_len (u : Ut) : (callN u).length ≤ u.words.length := Nat.le_trans (callsL_len _ _) (ancL_len _)
theorem lost_pcr (u : Ut) (h : Ok1 u) : PCR Tryd.prog env0 44 [uv u] 66 6 ((lostN u).map fdv) := by
 have hA := (called_pcr u h).pc
 have hue := uv_eq u
 have hal := callN_len u
 have hl := h.1
 have hkl := h.2.2
 have hml : (u.kids.map uv).length = u.kids.length := List.length_map _
 unfold lostN
 generalize hls : callN u = l at hA hal ⊢
 have hil : (iv l).length = l.length := List.length_map _
 rw [hue] at hA ⊢
 refine PCR.of_va (T := tb0) eqs_ok tb_ok rfl mixed Tryd.func44 rfl rfl (Nat.le_of_ble_eq_true rfl) rfl ?_; intro Γ C WK LP fin h0 hW hC hB hR hLP hfin
 (try (conv => whnf)); (repeat ((first | refine qT ?_ | refine qF ?_ | refine qO ?_ | (with_reducible intro z hz); (first | (replace hz := hz (by omega); subst hz) | subst hz) | (refine CallV.mk _ (hC _ _ _ (PCw.of hA)) (fun js hjs => ?_); subst hjs)); (try (conv => whnf))))
 refine hLP _ _ _ Nat (fun k => ⟨[(1, .ptr 0 1 0), (3, .row 1 1), (11, .imm (.sl 1 (iv l))), (12, .imm (.int .i64 (l.length : Nat))), (13, .imm (.int .i64 (k : Nat)))], [.box 1 [.imm (.int .i64 u.id.x), .imm (.int .i64 u.id.y), .imm (.int .i64 u.id.z), .imm (.int .i64 u.kind), .imm (.str u.label), .imm (.sl 4 (u.head.map wdv)), .imm (.sl 4 (u.words.map wdv)), .imm (.sl 8 (u.kids.map uv))], .map (.int .i64) 1 (idxM (l.take k)), .dead 0]⟩) (fun k => k ≤ l.length) (fun k => l.length - k) 0 (Nat.zero_le _) (qSL 3 rfl rfl (hE := by (repeat ((conv => whnf); first | exact trivial | refine And.intro (by first | exact WkOne.any | exact WkOne.eq (by with_reducible rfl) rfl | exact WkOne.eq (congrArg (fun z => PV.imm (IV.int IntKind.i64 z)) (by first | omega | (simp [hil]; done) | (simp [hil]; omega))) rfl | exact WkOne.eq (by first | (simp [hil]; done) | fail) rfl | exact WkOne.eq rfl rfl | exact WkOne.le rfl (ILe.nil _)) ?_)))) ?_
 intro k hk
 have hho := Nat.lt_or_ge k l.length
 cases hho with
 | inl hlt =>
   obtain ⟨a, ha⟩ : ∃ a, l[k]? = some a := ⟨l[k], List.getElem?_eq_getElem hlt⟩
   have hsn := idxM_snoc (l.take k) a
   rw [← take_at ha] at hsn
   (try (conv => whnf)); (repeat ((first | refine qT ?_ | refine qF ?_ | refine qO ?_ | (with_reducible intro z hz); (first | (replace hz := hz (by omega); subst hz) | subst hz)); (try (conv => whnf))))
   refine Idx.mk k (.int .i64 (a : Nat)) _ rfl (by simp [iv, ha]) rfl ?_
   (try (conv => whnf)); (repeat ((first | refine qT ?_ | refine qF ?_ | refine qO ?_ | (with_reducible intro z hz); (first | (replace hz := hz (by omega); subst hz) | subst hz)); (try (conv => whnf))))
   exact ⟨k + 1, by omega, by dsimp only; omega, ((WeakA.mapTo 1 ((idxM (l.take (k + 1)))) rfl (by exact hsn.symm))).trans (qSL 3 rfl rfl)⟩
 | inr hge =>
   obtain rfl : k = l.length := by omega
   rw [List.take_length]
   (try (conv => whnf)); (repeat ((first | refine qT ?_ | refine qF ?_ | refine qO ?_ | (with_reducible intro z hz); (first | (replace hz := hz (by omega); subst hz) | subst hz)); (try (conv => whnf))))
   refine hLP _ _ _ Nat (fun k => ⟨[(3, .row 1 1), (6, .row 3 1), (21, .imm (.sl 8 (u.kids.map uv))), (22, .imm (.int .i64 (u.kids.length : Nat))), (23, .imm (.int .i64 (k : Nat)))], [.box 1 [.imm (.int .i64 u.id.x), .imm (.int .i64 u.id.y), .imm (.int .i64 u.id.z), .imm (.int .i64 u.kind), .imm (.str u.label), .imm (.sl 4 (u.head.map wdv)), .imm (.sl 4 (u.words.map wdv)), .imm (.sl 8 (u.kids.map uv))], .map (.int .i64) 1 (idxM l), .dead 0, .row 66 6 1 (((lostL l 0 (u.kids.take k)).map fdv).map .imm)]⟩) (fun k => k ≤ u.kids.length) (fun k => u.kids.length - k) 0 (Nat.zero_le _) (((WeakA.nilSlot 6 66 6 (Nat.le_of_ble_eq_true rfl) rfl)).trans (((WeakA.row 3 ((((lostL l 0 (u.kids.take 0)).map fdv).map .imm)) rfl (by simp [lostL]))).trans (qSL 4 rfl rfl (hE := by (repeat ((conv => whnf); first | exact trivial | refine And.intro (by first | exact WkOne.any | exact WkOne.eq (by with_reducible rfl) rfl | exact WkOne.eq (congrArg (fun z => PV.imm (IV.int IntKind.i64 z)) (by first | omega | (simp [hml]; done) | (simp [hml]; omega))) rfl | exact WkOne.eq (by first | (simp [hml]; done) | fail) rfl | exact WkOne.eq rfl rfl | exact WkOne.le rfl (ILe.nil _)) ?_)))))) ?_
   intro k hk
   have hho := Nat.lt_or_ge k u.kids.length
   cases hho with
   | inr hge =>
     obtain rfl : k = u.kids.length := by omega
     rw [List.take_length]
     (try (conv => whnf)); (repeat ((first | refine qT ?_ | refine qF ?_ | refine qO ?_ | (with_reducible intro z hz); (first | (replace hz := hz (by omega); subst hz) | subst hz)); (try (conv => whnf))))
     exact hfin _ _ _ _ (WeakA.refl _) rfl
   | inl hlt =>
     obtain ⟨x, hx⟩ : ∃ x, u.kids[k]? = some x := ⟨u.kids[k], List.getElem?_eq_getElem hlt⟩
     have hux := uv_eq x
     have hsn := lostL_snoc l (u.kids.take k) x
     rw [← take_at hx, List.length_take, Nat.min_eq_left hk] at hsn
     have hlk := lostL_len l (u.kids.take k) 0
     rw [List.length_take] at hlk
     have hRl : (((lostL l 0 (u.kids.take k)).map fdv).map PV.imm).length ≤ k := by
       rw [List.length_map, List.length_map]
       omega
     have hOw : (((lostL l 0 (u.kids.take k)).map fdv).map PV.imm).length + 1 ≤ most := by unfold most; omega
     have hg := idx_get l k
     unfold lostA at hsn
     by_cases h7 : x.kind = 7
     · by_cases hin : k ∈ l
       · rw [if_neg fun hc => hc.2 hin, List.append_nil] at hsn
         rw [decide_eq_true hin] at hg
         (try (conv => whnf)); (repeat ((first | refine qT ?_ | refine qF ?_ | refine qO ?_ | (with_reducible intro z hz); (first | (replace hz := hz (by omega); subst hz) | subst hz)); (try (conv => whnf))))
         refine Idx.mk k (uv x) _ rfl (by simp [hx]) (by rw [hux]; try rfl) ?_
         (try (conv => whnf)); (repeat ((first | refine qT ?_ | refine qF ?_ | refine qO ?_ | (with_reducible intro z hz); (first | (replace hz := hz (by omega); subst hz) | subst hz)); (try (conv => whnf))))
         refine LookK.mk (.bool true) _ hg rfl ?_
         (try (conv => whnf)); (repeat ((first | refine qT ?_ | refine qF ?_ | refine qO ?_ | (with_reducible intro z hz); (first | (replace hz := hz (by omega); subst hz) | subst hz)); (try (conv => whnf))))
         exact ⟨k + 1, by omega, by dsimp only; omega, ((WeakA.row 3 ((((lostL l 0 (u.kids.take (k + 1))).map fdv).map .imm)) rfl (by rw [hsn]))).trans (qSL 4 rfl rfl)⟩
       · rw [if_pos ⟨h7, hin⟩] at hsn
         rw [decide_eq_false hin] at hg
         (try (conv => whnf)); (repeat ((first | refine qT ?_ | refine qF ?_ | refine qO ?_ | (with_reducible intro z hz); (first | (replace hz := hz (by omega); subst hz) | subst hz)); (try (conv => whnf))))
         refine Idx.mk k (uv x) _ rfl (by simp [hx]) (by rw [hux]; try rfl) ?_
         (try (conv => whnf)); (repeat ((first | refine qT ?_ | refine qF ?_ | refine qO ?_ | (with_reducible intro z hz); (first | (replace hz := hz (by omega); subst hz) | subst hz)); (try (conv => whnf))))
         refine LookK.mk (.bool false) _ hg rfl ?_
         (try (conv => whnf)); (repeat ((first | refine qT ?_ | refine qF ?_ | refine qO ?_ | (with_reducible intro z hz); (first | (replace hz := hz (by omega); subst hz) | subst hz)); (try (conv => whnf))))
         exact ⟨k + 1, by omega, by dsimp only; omega, ((WeakA.row 3 ((((lostL l 0 (u.kids.take (k + 1))).map fdv).map .imm)) rfl (by rw [hsn]; simp [fdv, fdl]))).trans ((WeakA.renew 3 1 rfl (by first | omega | (intro _; rw [hk0 _ _ rfl]; exact Nat.le_of_ble_eq_true rfl)) (by repeat (first | exact trivial | refine And.intro (rgL_imms _ _ _ _) ?_ | refine And.intro rfl ?_))).trans (qSL 4 rfl rfl))⟩
     · rw [if_neg fun hc => h7 hc.1, List.append_nil] at hsn
       (try (conv => whnf)); (repeat ((first | refine qT ?_ | refine qF ?_ | refine qO ?_ | (with_reducible intro z hz); (first | (replace hz := hz (by omega); subst hz) | subst hz)); (try (conv => whnf))))
       refine Idx.mk k (uv x) _ rfl (by simp [hx]) (by rw [hux]; try rfl) ?_
       (try (conv => whnf)); (repeat ((first | refine qT ?_ | refine qF ?_ | refine qO ?_ | (with_reducible intro z hz); (first | (replace hz := hz (by omega); subst hz) | subst hz)); (try (conv => whnf))))
       exact ⟨k + 1, by omega, by dsimp only; omega, ((WeakA.row 3 ((((lostL l 0 (u.kids.take (k + 1))).map fdv).map .imm)) rfl (by rw [hsn]))).trans (qSL 4 rfl rfl)⟩
end Go.Proofs.YtkjgmnmngbfhhaaDoor.Pn
