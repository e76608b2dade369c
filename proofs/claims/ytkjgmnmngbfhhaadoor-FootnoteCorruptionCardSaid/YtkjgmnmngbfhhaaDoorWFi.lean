/-
  All findings of a tree; its called notes. The called notes of a tree. Renumbering.
-/
import Derived.Test.YtkjgmnmngbfhhaaDoorWFf
namespace Go.Proofs.YtkjgmnmngbfhhaaDoor.Pn
open Go Go.Pv Go.RowKit Go.Proofs.YtkjgmnmngbfhhaaDoor.Pb
set_option linter.unusedSimpArgs false
open Lab Lcs Go.Proofs.YtkjgmnmngbfhhaaDoor Go.Proofs.YtkjgmnmngbfhhaaDoor.Pu
set_option maxRecDepth 10000
set_option maxHeartbeats 16000000
def OkT (u : Ut) : Prop := ∀ x ∈ u.all, Ok1 x
def perC (u : Ut) : List Fd := faultN u ++ lostN u
theorem faultN_len (u : Ut) : (faultN u).length ≤ u.words.length := Nat.le_trans (badL_len _ _ _) (ancL_len _)
theorem lostN_len (u : Ut) : (lostN u).length ≤ u.kids.length := lostL_len _ _ _
theorem perC_len (u : Ut) (h : Ok1 u) : (perC u).length ≤ 200000 := by
 unfold perC
 rw [List.length_append]
 have := faultN_len u
 have := lostN_len u
 have := h.1
 have := h.2.2
 omega
theorem c1_pcb (u : Ut) (h : Ok1 u) (L : List Fd) (hL : L.length ≤ 500000000) : PCB Tryd.prog env0 42 [.imm (uv u), .ptr 0 1 0] [.box 1 [.row 1 1], .row 66 6 1 ((L.map fdv).map .imm)] [] [.box 1 [.row 1 2], .row 66 6 2 (((L ++ perC u).map fdv).map .imm)] := by
 have hA := (faulty_pcr u h).pc
 have hB2 := (lost_pcr u h).pc
 have hue := uv_eq u
 have h1 := faultN_len u
 have h2 := lostN_len u
 have h3 := h.1
 have h4 := h.2.2
 have hp : perC u = faultN u ++ lostN u := rfl
 rw [hp]
 generalize faultN u = a at hA h1
 generalize lostN u = b at hB2 h2
 have hal : (a.map fdv).length = a.length := List.length_map _
 have hbl : (b.map fdv).length = b.length := List.length_map _
 have hRl : ((L.map fdv).map PV.imm).length = L.length := by simp
 have hOw : ((L.map fdv).map PV.imm).length + (a.map fdv).length ≤ most := by unfold most; omega
 have hOw2 : ((L.map fdv).map PV.imm ++ (a.map fdv).map PV.imm).length + (b.map fdv).length ≤ most := by rw [List.length_append, hRl, List.length_map, hal, hbl]; unfold most; omega
 rw [hue] at hA hB2 ⊢
 refine PCB.of_va (T := tb0) eqs_ok tb_ok rfl mixed Tryd.func42 rfl rfl rfl (Nat.le_of_ble_eq_true rfl) rfl ?_; intro Γ C WK LP fin h0 hk0 hW hC hB hR hLP hfin
 (try (conv => whnf)); (repeat ((first | refine qT ?_ | refine qF ?_ | refine qO ?_ | (with_reducible intro z hz); (first | (replace hz := hz (by omega); subst hz) | subst hz) | (refine CallV.mk _ (hC _ _ _ (PCw.of hA)) (fun js hjs => ?_); subst hjs) | (refine CallV.mk _ (hC _ _ _ (PCw.of hB2)) (fun js hjs => ?_); subst hjs)); (try (conv => whnf))))
 exact hfin _ (((WeakA.row 1 ((((L ++ (a ++ b)).map fdv).map .imm)) rfl (by simp [List.map_append]))).trans ((WeakA.renew 1 2 rfl (by first | omega | (intro _; rw [hk0 _ _ rfl]; exact Nat.le_of_ble_eq_true rfl)) (by repeat (first | exact trivial | refine And.intro (rgL_imms _ _ _ _) ?_ | refine And.intro rfl ?_))).trans (qSL 2 rfl rfl)))
theorem alls_take {l : List Ut} {k : Nat} {x : Ut} (hx : l[k]? = some x) : Ut.alls (l.take (k + 1)) = Ut.alls (l.take k) ++ x.all := by
 rw [take_at hx]
 have : ∀ a b : List Ut, Ut.alls (a ++ b) = Ut.alls a ++ Ut.alls b := by
   intro a b
   induction a with
   | nil => simp [Ut.alls]
   | cons y a ih => simp [Ut.alls, ih]
 rw [this]
 simp [Ut.alls]
mutual
theorem all_len : ∀ u : Ut, u.all.length = u.count
 | .mk id kind label head words kids => by
   rw [all_mk, count_mk, List.length_cons, alls_len kids]
   omega
theorem alls_len : ∀ l : List Ut, (Ut.alls l).length = Ut.counts l
 | [] => by simp [Ut.alls, Ut.counts]
 | u :: r => by simp only [Ut.alls, Ut.counts, List.length_append]; rw [all_len u, alls_len r]
end
def fdsL (l : List Ut) : List Fd := l.flatMap perC
theorem fdsL_app (a b : List Ut) : fdsL (a ++ b) = fdsL a ++ fdsL b := by unfold fdsL; rw [List.flatMap_append]
theorem fdsL_take {l : List Ut} {k : Nat} {x : Ut} (hx : l[k]? = some x) : fdsL (Ut.alls (l.take (k + 1))) = fdsL (Ut.alls (l.take k)) ++ fdsL x.all := by rw [alls_take hx, fdsL_app]
theorem fdsL_all (u : Ut) : fdsL u.all = perC u ++ fdsL (Ut.alls u.kids) := by rw [Ut.all_eq]; unfold fdsL; rw [List.flatMap_cons]
theorem fdsL_len : ∀ (l : List Ut), (∀ x ∈ l, Ok1 x) → (fdsL l).length ≤ 200000 * l.length
 | [], _ => by simp [fdsL]
 | x :: l, h => by
   have h1 := perC_len x (h x List.mem_cons_self)
   have h2 := fdsL_len l fun y hy => h y (List.mem_cons_of_mem _ hy)
   unfold fdsL at h2 ⊢
   rw [List.flatMap_cons, List.length_append, List.length_cons]
   omega
theorem visC_pcb (N : Nat) : ∀ (u : Ut) (L : List Fd), u.count ≤ N → OkT u → L.length + 200000 * u.count ≤ 500000000 → PCB Tryd.prog env0 41 [.imm (uv u), .clo 42 [.ptr 0 1 0]] [.box 1 [.row 1 1], .row 66 6 1 ((L.map fdv).map .imm)] [] [.box 1 [.row 1 2], .row 66 6 2 (((L ++ fdsL u.all).map fdv).map .imm)] := by
 induction N with
 | zero => intro u L h; have := count_pos u; omega
 | succ N ih =>
 intro u L hn hok hM
 have hue := uv_eq u
 have hcu := Ut.count_eq u
 have hml : (u.kids.map uv).length = u.kids.length := List.length_map _
 have hou : Ok1 u := hok u (by rw [Ut.all_eq]; exact List.mem_cons_self)
 have hI := c1_pcb u hou L (by omega)
 have hpl := perC_len u hou
 have hall := fdsL_all u
 rw [hue] at hI ⊢
 refine PCB.of_va (T := tb0) eqs_ok tb_ok rfl mixed Tryd.func41 rfl rfl rfl (Nat.le_of_ble_eq_true rfl) rfl ?_; intro Γ C WK LP fin h0 hk0 hW hC hB hR hLP hfin
 (try (conv => whnf)); (repeat ((first | refine qT ?_ | refine qF ?_ | refine qO ?_ | (with_reducible intro z hz); (first | (replace hz := hz (by omega); subst hz) | subst hz)); (try (conv => whnf))))
 refine Imms.mk (L.map fdv) rfl ?_
 (try (conv => whnf)); (repeat ((first | refine qT ?_ | refine qF ?_ | refine qO ?_ | (with_reducible intro z hz); (first | (replace hz := hz (by omega); subst hz) | subst hz)); (try (conv => whnf))))
 refine CallB.mk ([]) ([.box 1 [.row 1 2], .row 66 6 2 ((L ++ perC u).map fdv)]) (hB _ _ _ _ _ (hI)) ?_
 (try (conv => whnf)); (repeat ((first | refine qT ?_ | refine qF ?_ | refine qO ?_ | (with_reducible intro z hz); (first | (replace hz := hz (by omega); subst hz) | subst hz)); (try (conv => whnf))))
 refine hLP _ _ _ Nat (fun k => ⟨[(1, .clo 42 [.ptr 0 1 0]), (10, .imm (.sl 8 (u.kids.map uv))), (11, .imm (.int .i64 (u.kids.length : Nat))), (12, .imm (.int .i64 (k : Nat)))], [.box 1 [.row 1 2], .row 66 6 2 (((L ++ perC u ++ fdsL (Ut.alls (u.kids.take k))).map fdv).map .imm)]⟩) (fun k => k ≤ u.kids.length) (fun k => u.kids.length - k) 0 (Nat.zero_le _) (((WeakA.row 1 ((((L ++ perC u ++ fdsL (Ut.alls (u.kids.take 0))).map fdv).map .imm)) rfl (by simp [fdsL, Ut.alls]))).trans (qSL 2 rfl rfl (hE := by (repeat ((conv => whnf); first | exact trivial | refine And.intro (by first | exact WkOne.any | exact WkOne.eq (by with_reducible rfl) rfl | exact WkOne.eq (congrArg (fun z => PV.imm (IV.int IntKind.i64 z)) (by first | omega | (simp [hml]; done) | (simp [hml]; omega))) rfl | exact WkOne.eq (by first | (simp [hml]; done) | fail) rfl | exact WkOne.eq rfl rfl | exact WkOne.le rfl (ILe.nil _)) ?_))))) ?_
 intro k hk
 have hho := Nat.lt_or_ge k u.kids.length
 cases hho with
 | inl hlt =>
   obtain ⟨x, hx⟩ : ∃ x, u.kids[k]? = some x := ⟨u.kids[k], List.getElem?_eq_getElem hlt⟩
   have h1 := kid_lt' hx
   have hux := uv_eq x
   have hokA : ∀ y ∈ Ut.alls (u.kids.take k), Ok1 y := fun y hy => hok y (by
     rw [Ut.all_eq]
     obtain ⟨z, hz, hyz⟩ := mem_alls.1 hy
     exact List.mem_cons_of_mem _ (mem_alls.2 ⟨z, List.mem_of_mem_take hz, hyz⟩))
   have hokx : OkT x := fun y hy => hok y (by
     rw [Ut.all_eq]
     exact List.mem_cons_of_mem _ (mem_alls.2 ⟨x, List.mem_of_getElem? hx, hy⟩))
   have hlk := fdsL_len (Ut.alls (u.kids.take k)) hokA
   rw [alls_len] at hlk
   have hI2 := ih x (L ++ perC u ++ fdsL (Ut.alls (u.kids.take k))) (by omega) hokx (by rw [List.length_append, List.length_append]; omega)
   have htk := fdsL_take hx
   rw [hux] at hI2
   (try (conv => whnf)); (repeat ((first | refine qT ?_ | refine qF ?_ | refine qO ?_ | (with_reducible intro z hz); (first | (replace hz := hz (by omega); subst hz) | subst hz)); (try (conv => whnf))))
   refine Idx.mk k (uv x) _ rfl (by simp [hx]) (by rw [hux]; try rfl) ?_
   (try (conv => whnf)); (repeat ((first | refine qT ?_ | refine qF ?_ | refine qO ?_ | (with_reducible intro z hz); (first | (replace hz := hz (by omega); subst hz) | subst hz)); (try (conv => whnf))))
   refine Imms.mk ((L ++ perC u ++ fdsL (Ut.alls (u.kids.take k))).map fdv) rfl ?_
   (try (conv => whnf)); (repeat ((first | refine qT ?_ | refine qF ?_ | refine qO ?_ | (with_reducible intro z hz); (first | (replace hz := hz (by omega); subst hz) | subst hz)); (try (conv => whnf))))
   refine CallB.mk ([]) ([.box 1 [.row 1 2], .row 66 6 2 ((L ++ perC u ++ fdsL (Ut.alls (u.kids.take k)) ++ fdsL x.all).map fdv)]) (hB _ _ _ _ _ (hI2)) ?_
   (try (conv => whnf)); (repeat ((first | refine qT ?_ | refine qF ?_ | refine qO ?_ | (with_reducible intro z hz); (first | (replace hz := hz (by omega); subst hz) | subst hz)); (try (conv => whnf))))
   exact ⟨k + 1, by omega, by dsimp only; omega, ((WeakA.row 1 ((((L ++ perC u ++ fdsL (Ut.alls (u.kids.take (k + 1)))).map fdv).map .imm)) rfl (by rw [htk]; simp))).trans ((WeakA.renew 1 2 rfl (by first | omega | (intro _; rw [hk0 _ _ rfl]; exact Nat.le_of_ble_eq_true rfl)) (by repeat (first | exact trivial | refine And.intro (rgL_imms _ _ _ _) ?_ | refine And.intro rfl ?_))).trans (qSL 2 rfl rfl))⟩
 | inr hge =>
   obtain rfl : k = u.kids.length := by omega
   (try (conv => whnf)); (repeat ((first | refine qT ?_ | refine qF ?_ | refine qO ?_ | (with_reducible intro z hz); (first | (replace hz := hz (by omega); subst hz) | subst hz)); (try (conv => whnf))))
   refine hfin _ (((WeakA.row 1 ((((L ++ fdsL u.all).map fdv).map .imm)) rfl (by rw [List.take_length, hall]; simp))).trans (qSL 2 rfl rfl))
theorem check_pcr (u : Ut) (hok : OkT u) (hM : u.count ≤ 1000) : PCR Tryd.prog env0 19 [uv u] 66 6 ((fdsL u.all).map fdv) := by
 have hV := visC_pcb u.count u [] (Nat.le_refl _) hok (by simp; omega)
 have hue := uv_eq u
 rw [hue] at hV ⊢
 refine PCR.of_va (T := (tbn (fun _ => []) fun r => match r with | 2 => true | _ => false)) eqs_ok tb_ok rfl mixed Tryd.func19 rfl rfl (Nat.le_of_ble_eq_true rfl) rfl ?_; intro Γ C WK LP fin h0 hW hC hB hR hLP hfin
 (try (conv => whnf)); (repeat ((first | refine qT ?_ | refine qF ?_ | refine qO ?_ | (with_reducible intro z hz); (first | (replace hz := hz (by omega); subst hz) | subst hz)); (try (conv => whnf))))
 refine hW _ _ _ ((WeakA.nilBox 1 0 66 6 rfl rfl)) ?_
 (try (conv => whnf)); (repeat ((first | refine qT ?_ | refine qF ?_ | refine qO ?_ | (with_reducible intro z hz); (first | (replace hz := hz (by omega); subst hz) | subst hz)); (try (conv => whnf))))
 refine Imms.mk [] rfl ?_
 (try (conv => whnf)); (repeat ((first | refine qT ?_ | refine qF ?_ | refine qO ?_ | (with_reducible intro z hz); (first | (replace hz := hz (by omega); subst hz) | subst hz)); (try (conv => whnf))))
 refine CallB.mk ([]) ([.box 1 [.row 1 2], .row 66 6 2 (List.map fdv ([] ++ fdsL u.all))]) (hB _ _ _ _ _ (hV)) ?_
 (try (conv => whnf)); (repeat ((first | refine qT ?_ | refine qF ?_ | refine qO ?_ | (with_reducible intro z hz); (first | (replace hz := hz (by omega); subst hz) | subst hz)); (try (conv => whnf))))
 exact hfin _ _ _ _ (WeakA.refl _) rfl
theorem fvalid_pc (u : Ut) (hok : OkT u) (hM : u.count ≤ 1000) : PC Tryd.prog env0 20 [uv u] [.bool (decide (fdsL u.all = []))] := by
 have hC1 := (check_pcr u hok hM).pc
 have hue := uv_eq u
 have hml : ((fdsL u.all).map fdv).length = (fdsL u.all).length := List.length_map _
 rw [hue] at hC1 ⊢
 generalize fdsL u.all = l at hC1 hml
 by_cases h : l = []
 · rw [decide_eq_true h]
   have h0' : l.length = 0 := by rw [h]; rfl
   refine PC.of_va (T := tb0) eqs_ok tb_ok rfl mixed Tryd.func20 rfl rfl (Nat.le_of_ble_eq_true rfl) ?_; intro Γ C WK LP fin h0 hW hC hB hR hLP hfin
   (try (conv => whnf)); (repeat ((first | refine qT ?_ | refine qF ?_ | refine qO ?_ | (with_reducible intro z hz); (first | (replace hz := hz (by omega); subst hz) | subst hz) | (refine CallV.mk _ (hC _ _ _ (PCw.of hC1)) (fun js hjs => ?_); subst hjs)); (try (conv => whnf))))
   exact hfin _ (ILes.refl _)
 · rw [decide_eq_false h]
   have h0' : l.length ≠ 0 := fun hq => h (List.eq_nil_of_length_eq_zero hq)
   refine PC.of_va (T := tb0) eqs_ok tb_ok rfl mixed Tryd.func20 rfl rfl (Nat.le_of_ble_eq_true rfl) ?_; intro Γ C WK LP fin h0 hW hC hB hR hLP hfin
   (try (conv => whnf)); (repeat ((first | refine qT ?_ | refine qF ?_ | refine qO ?_ | (with_reducible intro z hz); (first | (replace hz := hz (by omega); subst hz) | subst hz) | (refine CallV.mk _ (hC _ _ _ (PCw.of hC1)) (fun js hjs => ?_); subst hjs)); (try (conv => whnf))))
   exact hfin _ (ILes.refl _)
end Go.Proofs.YtkjgmnmngbfhhaaDoor.Pn
namespace Go.Proofs.YtkjgmnmngbfhhaaDoor.Pn
open Go Go.Pv Go.RowKit Go.Proofs.YtkjgmnmngbfhhaaDoor.Pb
set_option linter.unusedSimpArgs false
open Lab Lcs Go.Proofs.YtkjgmnmngbfhhaaDoor Go.Proofs.YtkjgmnmngbfhhaaDoor.Pu
set_option maxRecDepth 10000
set_option maxHeartbeats 16000000
theorem noteO_some {kids : List Ut} {s : Str} {k : Nat} (h : noteO kids s = some k) : ∃ x, kids[k]? = some x ∧ isNote s x = true ∧ ∀ y ∈ kids.take k, isNote s y = false := by
 have hi := noteO_idx kids s
 rw [h] at hi
 rcases idxZ_cases (isNote s) kids with ⟨h1, _⟩ | ⟨j, x, h1, h2, h3, h4⟩
 · rw [h1] at hi
   exact absurd hi (by simp only; omega)
 · rw [h4] at hi
   have : j = k := by simp only at hi; omega
   subst this
   exact ⟨x, h1, h2, h3⟩
theorem noteO_none {kids : List Ut} {s : Str} (h : noteO kids s = none) : ∀ y ∈ kids, isNote s y = false := by
 have hi := noteO_idx kids s
 rw [h] at hi
 rcases idxZ_cases (isNote s) kids with ⟨_, h1⟩ | ⟨j, x, _, _, _, h4⟩
 · exact h1
 · rw [h4] at hi
   exact absurd hi (by simp only; omega)
theorem inB_mem {s : Str} {L : List Str} : inB s L = true ↔ s ∈ L := by
 unfold inB
 rw [List.any_eq_true]
 constructor
 · rintro ⟨x, hx, h⟩
   have := of_decide_eq_true h
   exact this ▸ hx
 · intro h
   exact ⟨s, h, decide_eq_true rfl⟩
theorem callsL_mem {kids : List Ut} {l : List (Nat × Str)} {n : Nat} : n ∈ callsL kids l ↔ ∃ a ∈ l, noteO kids a.2 = some n := by
 have : ∀ (m : Nat) (l : List (Nat × Str)), l.length = m → (n ∈ callsL kids l ↔ ∃ a ∈ l, noteO kids a.2 = some n) := by
   intro m
   induction m with
   | zero => intro l hl; obtain rfl := List.eq_nil_of_length_eq_zero hl; simp [callsL]
   | succ m ih =>
     intro l hl
     obtain ⟨r, x, rfl⟩ : ∃ r x, l = r ++ [x] := ⟨l.dropLast, l.getLast (by intro h; subst h; simp at hl), (List.dropLast_concat_getLast _).symm⟩
     have h1 := ih r (by simpa using hl)
     rw [callsL_snoc, List.mem_append, h1]
     constructor
     · rintro (⟨a, ha, hn⟩ | hn)
       · exact ⟨a, List.mem_append_left _ ha, hn⟩
       · split at hn
         · cases hn
         · exact ⟨x, List.mem_append_right _ (List.mem_singleton.2 rfl), by simpa using hn⟩
     · rintro ⟨a, ha, hn⟩
       rcases List.mem_append.1 ha with ha | ha
       · exact Or.inl ⟨a, ha, hn⟩
       · obtain rfl := List.mem_singleton.1 ha
         cases hin : inB a.2 (r.map Prod.snd) with
         | true =>
           obtain ⟨b, hb, hbe⟩ := List.mem_map.1 (inB_mem.1 hin)
           exact Or.inl ⟨b, hb, by rw [hbe]; exact hn⟩
         | false =>
           refine Or.inr ?_
           rw [if_neg (by simp), hn]
           simp
 exact this _ l rfl
theorem callN_at {u : Ut} {n : Nat} (h : n ∈ callN u) : ∃ x, u.kids[n]? = some x ∧ x.kind = 7 := by
 obtain ⟨a, _, hn⟩ := callsL_mem.1 h
 obtain ⟨x, hx, hi, _⟩ := noteO_some hn
 unfold isNote at hi
 simp only [Bool.and_eq_true, decide_eq_true_eq] at hi
 exact ⟨x, hx, hi.1⟩
def kidId (u : Ut) (n : Nat) : Trip := match u.kids[n]? with
 | some x => x.id
 | none => ⟨0, 0, 0⟩
def perN (u : Ut) : List Trip := (callN u).map (kidId u)
theorem perN_len (u : Ut) (h : Ok1 u) : (perN u).length ≤ 200000 := by
 unfold perN
 rw [List.length_map]
 have := callN_len u
 have := h.1
 omega
theorem n1_pcb (u : Ut) (h : Ok1 u) (L : List Trip) (hL : L.length ≤ 500000000) : PCB Tryd.prog env0 45 [.imm (uv u), .ptr 0 1 0] [.box 1 [.row 1 1], .row 23 3 1 ((L.map idv).map .imm)] [] [.box 1 [.row 1 2], .row 23 3 2 (((L ++ perN u).map idv).map .imm)] := by
 have hA := (called_pcr u h).pc
 have hue := uv_eq u
 have hcl := callN_len u
 have hl := h.1
 have hat : ∀ n ∈ callN u, ∃ x, u.kids[n]? = some x := fun n hn => by obtain ⟨x, hx, _⟩ := callN_at hn; exact ⟨x, hx⟩
 unfold perN
 generalize callN u = l at hA hcl hat
 have hil : (iv l).length = l.length := List.length_map _
 rw [hue] at hA ⊢
 refine PCB.of_va (T := tb0) eqs_ok tb_ok rfl mixed Tryd.func45 rfl rfl rfl (Nat.le_of_ble_eq_true rfl) rfl ?_; intro Γ C WK LP fin h0 hk0 hW hC hB hR hLP hfin
 (try (conv => whnf)); (repeat ((first | refine qT ?_ | refine qF ?_ | refine qO ?_ | (with_reducible intro z hz); (first | (replace hz := hz (by omega); subst hz) | subst hz) | (refine CallV.mk _ (hC _ _ _ (PCw.of hA)) (fun js hjs => ?_); subst hjs)); (try (conv => whnf))))
 refine hLP _ _ _ Nat (fun k => ⟨[(1, .ptr 0 1 0), (2, .ptr 2 1 0), (6, .imm (.sl 1 (iv l))), (7, .imm (.int .i64 (l.length : Nat))), (8, .imm (.int .i64 (k : Nat)))], [.box 1 [.row 1 2], .row 23 3 2 (((L ++ (l.take k).map (kidId u)).map idv).map .imm), .box 1 [.imm (.int .i64 u.id.x), .imm (.int .i64 u.id.y), .imm (.int .i64 u.id.z), .imm (.int .i64 u.kind), .imm (.str u.label), .imm (.sl 4 (u.head.map wdv)), .imm (.sl 4 (u.words.map wdv)), .imm (.sl 8 (u.kids.map uv))]]⟩) (fun k => k ≤ l.length) (fun k => l.length - k) 0 (Nat.zero_le _) (((WeakA.row 1 ((((L ++ (l.take 0).map (kidId u)).map idv).map .imm)) rfl (by simp))).trans ((WeakA.renew 1 2 rfl (by first | omega | (intro _; rw [hk0 _ _ rfl]; exact Nat.le_of_ble_eq_true rfl)) (by repeat (first | exact trivial | refine And.intro (rgL_imms _ _ _ _) ?_ | refine And.intro rfl ?_))).trans (qSL 3 rfl rfl (hE := by (repeat ((conv => whnf); first | exact trivial | refine And.intro (by first | exact WkOne.any | exact WkOne.eq (by with_reducible rfl) rfl | exact WkOne.eq (congrArg (fun z => PV.imm (IV.int IntKind.i64 z)) (by first | omega | (simp [hil]; done) | (simp [hil]; omega))) rfl | exact WkOne.eq (by first | (simp [hil]; done) | fail) rfl | exact WkOne.eq rfl rfl | exact WkOne.le rfl (ILe.nil _)) ?_)))))) ?_
 intro k hk
 have hho := Nat.lt_or_ge k l.length
 cases hho with
 | inr hge =>
   obtain rfl : k = l.length := by omega
   rw [List.take_length]
   (try (conv => whnf)); (repeat ((first | refine qT ?_ | refine qF ?_ | refine qO ?_ | (with_reducible intro z hz); (first | (replace hz := hz (by omega); subst hz) | subst hz)); (try (conv => whnf))))
   exact hfin _ (qSL 2 rfl rfl)
 | inl hlt =>
   obtain ⟨n, hn⟩ : ∃ n, l[k]? = some n := ⟨l[k], List.getElem?_eq_getElem hlt⟩
   obtain ⟨x, hx⟩ := hat n (List.mem_of_getElem? hn)
   have hux := uv_eq x
   have hki : kidId u n = x.id := by unfold kidId; rw [hx]
   have hRl : (((L ++ (l.take k).map (kidId u)).map idv).map PV.imm).length ≤ L.length + k := by
     rw [List.length_map, List.length_map, List.length_append, List.length_map, List.length_take]
     omega
   have hOw : (((L ++ (l.take k).map (kidId u)).map idv).map PV.imm).length + 1 ≤ most := by unfold most; omega
   (try (conv => whnf)); (repeat ((first | refine qT ?_ | refine qF ?_ | refine qO ?_ | (with_reducible intro z hz); (first | (replace hz := hz (by omega); subst hz) | subst hz)); (try (conv => whnf))))
   refine Idx.mk k (.int .i64 (n : Nat)) _ rfl (by simp [iv, hn]) rfl ?_
   (try (conv => whnf)); (repeat ((first | refine qT ?_ | refine qF ?_ | refine qO ?_ | (with_reducible intro z hz); (first | (replace hz := hz (by omega); subst hz) | subst hz)); (try (conv => whnf))))
   refine Idx.mk n (uv x) _ rfl (by simp [hx]) (by rw [hux]) ?_
   (try (conv => whnf)); (repeat ((first | refine qT ?_ | refine qF ?_ | refine qO ?_ | (with_reducible intro z hz); (first | (replace hz := hz (by omega); subst hz) | subst hz)); (try (conv => whnf))))
   exact ⟨k + 1, by omega, by dsimp only; omega, ((WeakA.row 1 ((((L ++ (l.take (k + 1)).map (kidId u)).map idv).map .imm)) rfl (by rw [take_at hn]; simp [hki, idv, idl, cellsI]))).trans ((WeakA.renew 1 2 rfl (by first | omega | (intro _; rw [hk0 _ _ rfl]; exact Nat.le_of_ble_eq_true rfl)) (by repeat (first | exact trivial | refine And.intro (rgL_imms _ _ _ _) ?_ | refine And.intro rfl ?_))).trans (qSL 3 rfl rfl))⟩
def notL (l : List Ut) : List Trip := l.flatMap perN
theorem notL_app (a b : List Ut) : notL (a ++ b) = notL a ++ notL b := by unfold notL; rw [List.flatMap_append]
theorem notL_take {l : List Ut} {k : Nat} {x : Ut} (hx : l[k]? = some x) : notL (Ut.alls (l.take (k + 1))) = notL (Ut.alls (l.take k)) ++ notL x.all := by rw [alls_take hx, notL_app]
theorem notL_all (u : Ut) : notL u.all = perN u ++ notL (Ut.alls u.kids) := by rw [Ut.all_eq]; unfold notL; rw [List.flatMap_cons]
theorem notL_len : ∀ (l : List Ut), (∀ x ∈ l, Ok1 x) → (notL l).length ≤ 200000 * l.length
 | [], _ => by simp [notL]
 | x :: l, h => by
   have h1 := perN_len x (h x List.mem_cons_self)
   have h2 := notL_len l fun y hy => h y (List.mem_cons_of_mem _ hy)
   unfold notL at h2 ⊢
   rw [List.flatMap_cons, List.length_append, List.length_cons]
   omega
theorem visN_pcb (N : Nat) : ∀ (u : Ut) (L : List Trip), u.count ≤ N → OkT u → L.length + 200000 * u.count ≤ 500000000 → PCB Tryd.prog env0 41 [.imm (uv u), .clo 45 [.ptr 0 1 0]] [.box 1 [.row 1 1], .row 23 3 1 ((L.map idv).map .imm)] [] [.box 1 [.row 1 2], .row 23 3 2 (((L ++ notL u.all).map idv).map .imm)] := by
 induction N with
 | zero => intro u L h; have := count_pos u; omega
 | succ N ih =>
 intro u L hn hok hM
 have hue := uv_eq u
 have hcu := Ut.count_eq u
 have hml : (u.kids.map uv).length = u.kids.length := List.length_map _
 have hou : Ok1 u := hok u (by rw [Ut.all_eq]; exact List.mem_cons_self)
 have hI := n1_pcb u hou L (by omega)
 have hpl := perN_len u hou
 have hall := notL_all u
 rw [hue] at hI ⊢
 refine PCB.of_va (T := tb0) eqs_ok tb_ok rfl mixed Tryd.func41 rfl rfl rfl (Nat.le_of_ble_eq_true rfl) rfl ?_; intro Γ C WK LP fin h0 hk0 hW hC hB hR hLP hfin
 (try (conv => whnf)); (repeat ((first | refine qT ?_ | refine qF ?_ | refine qO ?_ | (with_reducible intro z hz); (first | (replace hz := hz (by omega); subst hz) | subst hz)); (try (conv => whnf))))
 refine Imms.mk (L.map idv) rfl ?_
 (try (conv => whnf)); (repeat ((first | refine qT ?_ | refine qF ?_ | refine qO ?_ | (with_reducible intro z hz); (first | (replace hz := hz (by omega); subst hz) | subst hz)); (try (conv => whnf))))
 refine CallB.mk ([]) ([.box 1 [.row 1 2], .row 23 3 2 ((L ++ perN u).map idv)]) (hB _ _ _ _ _ (hI)) ?_
 (try (conv => whnf)); (repeat ((first | refine qT ?_ | refine qF ?_ | refine qO ?_ | (with_reducible intro z hz); (first | (replace hz := hz (by omega); subst hz) | subst hz)); (try (conv => whnf))))
 refine hLP _ _ _ Nat (fun k => ⟨[(1, .clo 45 [.ptr 0 1 0]), (10, .imm (.sl 8 (u.kids.map uv))), (11, .imm (.int .i64 (u.kids.length : Nat))), (12, .imm (.int .i64 (k : Nat)))], [.box 1 [.row 1 2], .row 23 3 2 (((L ++ perN u ++ notL (Ut.alls (u.kids.take k))).map idv).map .imm)]⟩) (fun k => k ≤ u.kids.length) (fun k => u.kids.length - k) 0 (Nat.zero_le _) (((WeakA.row 1 ((((L ++ perN u ++ notL (Ut.alls (u.kids.take 0))).map idv).map .imm)) rfl (by simp [notL, Ut.alls]))).trans (qSL 2 rfl rfl (hE := by (repeat ((conv => whnf); first | exact trivial | refine And.intro (by first | exact WkOne.any | exact WkOne.eq (by with_reducible rfl) rfl | exact WkOne.eq (congrArg (fun z => PV.imm (IV.int IntKind.i64 z)) (by first | omega | (simp [hml]; done) | (simp [hml]; omega))) rfl | exact WkOne.eq (by first | (simp [hml]; done) | fail) rfl | exact WkOne.eq rfl rfl | exact WkOne.le rfl (ILe.nil _)) ?_))))) ?_
 intro k hk
 have hho := Nat.lt_or_ge k u.kids.length
 cases hho with
 | inl hlt =>
   obtain ⟨x, hx⟩ : ∃ x, u.kids[k]? = some x := ⟨u.kids[k], List.getElem?_eq_getElem hlt⟩
   have h1 := kid_lt' hx
   have hux := uv_eq x
   have hokA : ∀ y ∈ Ut.alls (u.kids.take k), Ok1 y := fun y hy => hok y (by
     rw [Ut.all_eq]
     obtain ⟨z, hz, hyz⟩ := mem_alls.1 hy
     exact List.mem_cons_of_mem _ (mem_alls.2 ⟨z, List.mem_of_mem_take hz, hyz⟩))
   have hokx : OkT x := fun y hy => hok y (by
     rw [Ut.all_eq]
     exact List.mem_cons_of_mem _ (mem_alls.2 ⟨x, List.mem_of_getElem? hx, hy⟩))
   have hlk := notL_len (Ut.alls (u.kids.take k)) hokA
   rw [alls_len] at hlk
   have hI2 := ih x (L ++ perN u ++ notL (Ut.alls (u.kids.take k))) (by omega) hokx (by rw [List.length_append, List.length_append]; omega)
   have htk := notL_take hx
   rw [hux] at hI2
   (try (conv => whnf)); (repeat ((first | refine qT ?_ | refine qF ?_ | refine qO ?_ | (with_reducible intro z hz); (first | (replace hz := hz (by omega); subst hz) | subst hz)); (try (conv => whnf))))
   refine Idx.mk k (uv x) _ rfl (by simp [hx]) (by rw [hux]; try rfl) ?_
   (try (conv => whnf)); (repeat ((first | refine qT ?_ | refine qF ?_ | refine qO ?_ | (with_reducible intro z hz); (first | (replace hz := hz (by omega); subst hz) | subst hz)); (try (conv => whnf))))
   refine Imms.mk ((L ++ perN u ++ notL (Ut.alls (u.kids.take k))).map idv) rfl ?_
   (try (conv => whnf)); (repeat ((first | refine qT ?_ | refine qF ?_ | refine qO ?_ | (with_reducible intro z hz); (first | (replace hz := hz (by omega); subst hz) | subst hz)); (try (conv => whnf))))
   refine CallB.mk ([]) ([.box 1 [.row 1 2], .row 23 3 2 ((L ++ perN u ++ notL (Ut.alls (u.kids.take k)) ++ notL x.all).map idv)]) (hB _ _ _ _ _ (hI2)) ?_
   (try (conv => whnf)); (repeat ((first | refine qT ?_ | refine qF ?_ | refine qO ?_ | (with_reducible intro z hz); (first | (replace hz := hz (by omega); subst hz) | subst hz)); (try (conv => whnf))))
   exact ⟨k + 1, by omega, by dsimp only; omega, ((WeakA.row 1 ((((L ++ perN u ++ notL (Ut.alls (u.kids.take (k + 1)))).map idv).map .imm)) rfl (by rw [htk]; simp))).trans ((WeakA.renew 1 2 rfl (by first | omega | (intro _; rw [hk0 _ _ rfl]; exact Nat.le_of_ble_eq_true rfl)) (by repeat (first | exact trivial | refine And.intro (rgL_imms _ _ _ _) ?_ | refine And.intro rfl ?_))).trans (qSL 2 rfl rfl))⟩
 | inr hge =>
   obtain rfl : k = u.kids.length := by omega
   (try (conv => whnf)); (repeat ((first | refine qT ?_ | refine qF ?_ | refine qO ?_ | (with_reducible intro z hz); (first | (replace hz := hz (by omega); subst hz) | subst hz)); (try (conv => whnf))))
   refine hfin _ (((WeakA.row 1 ((((L ++ notL u.all).map idv).map .imm)) rfl (by rw [List.take_length, hall]; simp))).trans (qSL 2 rfl rfl))
theorem notes_pc (u : Ut) (hok : OkT u) (hM : u.count ≤ 1000) : PC Tryd.prog env0 22 [uv u] [.sl 3 ((notL u.all).map idv)] := by
 have hV := visN_pcb u.count u [] (Nat.le_refl _) hok (by simp; omega)
 have hue := uv_eq u
 rw [hue] at hV ⊢
 refine PC.of_va (T := (tbn (fun _ => []) fun r => match r with | 2 => true | _ => false)) eqs_ok tb_ok rfl mixed Tryd.func22 rfl rfl (Nat.le_of_ble_eq_true rfl) ?_; intro Γ C WK LP fin h0 hW hC hB hR hLP hfin
 (try (conv => whnf)); (repeat ((first | refine qT ?_ | refine qF ?_ | refine qO ?_ | (with_reducible intro z hz); (first | (replace hz := hz (by omega); subst hz) | subst hz)); (try (conv => whnf))))
 refine hW _ _ _ ((WeakA.nilBox 1 0 23 3 rfl rfl)) ?_
 (try (conv => whnf)); (repeat ((first | refine qT ?_ | refine qF ?_ | refine qO ?_ | (with_reducible intro z hz); (first | (replace hz := hz (by omega); subst hz) | subst hz)); (try (conv => whnf))))
 refine Imms.mk [] rfl ?_
 (try (conv => whnf)); (repeat ((first | refine qT ?_ | refine qF ?_ | refine qO ?_ | (with_reducible intro z hz); (first | (replace hz := hz (by omega); subst hz) | subst hz)); (try (conv => whnf))))
 refine CallB.mk ([]) ([.box 1 [.row 1 2], .row 23 3 2 (List.map idv ([] ++ notL u.all))]) (hB _ _ _ _ _ (hV)) ?_
 (try (conv => whnf)); (repeat ((first | refine qT ?_ | refine qF ?_ | refine qO ?_ | (with_reducible intro z hz); (first | (replace hz := hz (by omega); subst hz) | subst hz)); (try (conv => whnf))))
 refine Imms.mk _ rfl ?_
 exact hfin _ (ILes.refl _)
end Go.Proofs.YtkjgmnmngbfhhaaDoor.Pn
namespace Go.Proofs.YtkjgmnmngbfhhaaDoor.Pn
open Go Go.Pv Go.RowKit Go.Proofs.YtkjgmnmngbfhhaaDoor.Pb
set_option linter.unusedSimpArgs false
open Lab Lcs Go.Proofs.YtkjgmnmngbfhhaaDoor Go.Proofs.YtkjgmnmngbfhhaaDoor.Pu
set_option maxRecDepth 10000
set_option maxHeartbeats 16000000
def crt : Str := ⟨#[94]⟩
def relab (x : Ut) (s : Str) : Ut := .mk x.id x.kind s x.head x.words x.kids
def retext (a : Wd) (s : Str) : Wd := ⟨s, a.mark⟩
def wStep (W : List Wd) (p : Nat × Nat) : List Wd := W.modify p.1 fun a => retext a (crt ++ decS (p.2 + 1))
def kStep (K : List Ut) (p : Nat × Nat) : List Ut := K.modify p.1 fun x => relab x (decS (p.2 + 1))
def renWs (l : List Nat) (W : List Wd) : List Wd := l.zipIdx.foldl wStep W
def renKs (l : List Nat) (K : List Ut) : List Ut := l.zipIdx.foldl kStep K
theorem renWs_snoc (l : List Nat) (n : Nat) (W : List Wd) : renWs (l ++ [n]) W = (renWs l W).modify n fun a => retext a (crt ++ decS (l.length + 1)) := by
 unfold renWs
 rw [List.zipIdx_append, List.foldl_append]
 simp [wStep]
theorem renKs_snoc (l : List Nat) (n : Nat) (K : List Ut) : renKs (l ++ [n]) K = (renKs l K).modify n fun x => relab x (decS (l.length + 1)) := by
 unfold renKs
 rw [List.zipIdx_append, List.foldl_append]
 simp [kStep]
theorem renWs_len (l : List (Nat × Nat)) : ∀ W : List Wd, (l.foldl wStep W).length = W.length := by
 induction l with
 | nil => intro W; rfl
 | cons a l ih => intro W; rw [List.foldl_cons, ih]; unfold wStep; rw [List.length_modify]
theorem renKs_len (l : List (Nat × Nat)) : ∀ K : List Ut, (l.foldl kStep K).length = K.length := by
 induction l with
 | nil => intro W; rfl
 | cons a l ih => intro W; rw [List.foldl_cons, ih]; unfold kStep; rw [List.length_modify]
mutual
def renum : Ut → Ut
 | .mk id kind label head words kids => .mk id kind label head (renWs ((ancL words).map Prod.fst) words) (renKs (callsL kids (ancL words)) (renums kids))
def renums : List Ut → List Ut
 | [] => []
 | u :: r => renum u :: renums r
end
theorem renums_map : ∀ l : List Ut, renums l = l.map renum
 | [] => by simp [renums]
 | u :: r => by simp [renums, renums_map r]
theorem renum_eq (u : Ut) : renum u = .mk u.id u.kind u.label u.head (renWs ((ancL u.words).map Prod.fst) u.words) (renKs (callN u) (u.kids.map renum)) := by
 cases u; rw [renum, renums_map]; rfl
theorem renum_relab (x : Ut) (s : Str) : renum (relab x s) = relab (renum x) s := by rw [renum_eq, renum_eq x]; rfl
theorem map_modify {α β : Type} (f : α → β) (g : α → α) (h : β → β) (hc : ∀ x, f (g x) = h (f x)) : ∀ (l : List α) (n : Nat), (l.modify n g).map f = (l.map f).modify n h
 | [], n => by simp
 | a :: l, 0 => by simp [hc]
 | a :: l, n + 1 => by simp [map_modify f g h hc l n]
theorem renKs_map (l : List (Nat × Nat)) : ∀ K : List Ut, (l.foldl kStep K).map renum = l.foldl kStep (K.map renum) := by
 induction l with
 | nil => intro K; rfl
 | cons a l ih =>
   intro K
   rw [List.foldl_cons, List.foldl_cons, ih]
   congr 1
   unfold kStep
   exact map_modify renum _ _ (fun x => renum_relab x _) K a.1
theorem renum_kids (u : Ut) : renKs (callN u) (u.kids.map renum) = (renKs (callN u) u.kids).map renum := (renKs_map _ _).symm
theorem modify_set {α : Type} (f : α → α) : ∀ (l : List α) (j : Nat) (e : α), l[j]? = some e → l.modify j f = l.set j (f e)
 | [], j, e, h => by simp at h
 | a :: l, 0, e, h => by simp at h; subst h; simp
 | a :: l, j + 1, e, h => by simp at h; simp [modify_set f l j e h]
def GoodR (u : Ut) : Prop := ∀ x ∈ u.all, (callN x).length = (ancL x.words).length ∧ (ancL x.words).length ≤ 90 ∧ x.head.length ≤ 100000
theorem ancL_at {l : List Wd} : ∀ {p : Nat × Str}, p ∈ ancL l → ∃ a, l[p.1]? = some a ∧ ancB a.text = true ∧ p.2 = restS a.text := by
 intro p hp
 unfold ancL at hp
 obtain ⟨q, hq, rfl⟩ := List.mem_map.1 hp
 obtain ⟨h1, h2⟩ := List.mem_filter.1 hq
 have := List.mem_zipIdx_iff_getElem?.1 h1
 exact ⟨q.1, this, h2, rfl⟩
theorem renKs_at (l : List (Nat × Nat)) : ∀ (K : List Ut) (k : Nat) (y : Ut), (l.foldl kStep K)[k]? = some y → ∃ x, K[k]? = some x ∧ ∃ s, y = relab x s := by
 induction l with
 | nil => intro K k y h; exact ⟨y, h, y.label, by cases y; rfl⟩
 | cons a l ih =>
   intro K k y h
   rw [List.foldl_cons] at h
   obtain ⟨x, hx, s, rfl⟩ := ih _ k y h
   unfold kStep at hx
   rw [List.getElem?_modify] at hx
   cases hk : K[k]? with
   | none => rw [hk] at hx; cases hx
   | some z =>
     rw [hk] at hx
     split at hx
     · have hx := Option.some.inj hx
       exact ⟨z, rfl, s, by rw [← hx]; try rfl⟩
     · have hx := Option.some.inj hx
       exact ⟨z, rfl, s, by rw [← hx]; try rfl⟩
theorem relab_all (x : Ut) (s : Str) : (relab x s).all = relab x s :: Ut.alls x.kids := by rw [Ut.all_eq]; rfl
theorem relab_count (x : Ut) (s : Str) : (relab x s).count = x.count := by rw [Ut.count_eq, Ut.count_eq x]; rfl
theorem relab_ok {x : Ut} (s : Str) (h : OkT x) : OkT (relab x s) := by
 intro y hy
 rw [relab_all] at hy
 rcases List.mem_cons.1 hy with rfl | hy
 · exact h x (by rw [Ut.all_eq]; exact List.mem_cons_self)
 · exact h y (by rw [Ut.all_eq]; exact List.mem_cons_of_mem _ hy)
theorem relab_good {x : Ut} (s : Str) (h : GoodR x) : GoodR (relab x s) := by
 intro y hy
 rw [relab_all] at hy
 rcases List.mem_cons.1 hy with rfl | hy
 · exact h x (by rw [Ut.all_eq]; exact List.mem_cons_self)
 · exact h y (by rw [Ut.all_eq]; exact List.mem_cons_of_mem _ hy)
theorem kid_all {u x y : Ut} (hx : x ∈ u.kids) (hy : y ∈ x.all) : y ∈ u.all := by
 rw [Ut.all_eq]
 exact List.mem_cons_of_mem _ (mem_alls.2 ⟨x, hx, hy⟩)
theorem set_step {α : Type} {f : α → α} {l : List α} {k : Nat} {x : α} (hx : l[k]? = some x) : (l.take k).map f ++ l.drop k = (l.take k).map f ++ x :: l.drop (k + 1) ∧ (l.take (k + 1)).map f ++ l.drop (k + 1) = ((l.take k).map f ++ l.drop k).set k (f x) := by
 have hlt := (List.getElem?_eq_some_iff.1 hx).1
 have hd : l.drop k = x :: l.drop (k + 1) := by
   rw [List.drop_eq_getElem_cons hlt]
   congr 1
   exact (List.getElem?_eq_some_iff.1 hx).2
 refine ⟨by rw [hd], ?_⟩
 rw [hd, List.set_append_right _ _ (by simp; omega), List.length_map, List.length_take, Nat.min_eq_left (by omega), Nat.sub_self, List.set_cons_zero, take_at hx, List.map_append]
 simp
theorem renum_pc (N : Nat) : ∀ u : Ut, u.count ≤ N → OkT u → GoodR u → PC Tryd.prog env0 48 [uv u] [uv (renum u)] := by
 induction N with
 | zero => intro u h; have := count_pos u; omega
 | succ N ih =>
 intro u hN hok hgr
 have hue := uv_eq u
 have hmem : u ∈ u.all := by rw [Ut.all_eq]; exact List.mem_cons_self
 have hou := hok u hmem
 obtain ⟨hgl, hw90, hh90⟩ := hgr u hmem
 have hA := (anchors_pcr u hou).pc
 have hCa := (called_pcr u hou).pc
 have hal := ancL_len u.words
 have hcat : ∀ n ∈ callN u, n < u.kids.length := fun n hn => by obtain ⟨x, hx, _⟩ := callN_at hn; exact (List.getElem?_eq_some_iff.1 hx).1
 have haat : ∀ p ∈ ancL u.words, p.1 < u.words.length := fun p hp => by obtain ⟨a, ha, _⟩ := ancL_at hp; exact (List.getElem?_eq_some_iff.1 ha).1
 have hC1 := cloneW_pcr (X := env0) (u.head.map wdv) (by rw [List.length_map]; omega)
 have hC2 := cloneW_pcr (X := env0) (u.words.map wdv) (by rw [List.length_map]; have := hou.1; omega)
 have hC3 := cloneU_pcr (X := env0) (u.kids.map uv) (by rw [List.length_map]; have := hou.2.2; omega)
 rw [renum_eq u, renum_kids, uv_mk]
 rw [hue] at hA hCa ⊢
 generalize hcn : callN u = ns at hCa hgl hcat ⊢
 generalize hln : ancL u.words = l at hA hgl hal haat hw90 ⊢
 refine PC.of_va (T := tb0) eqs_ok tb_ok rfl mixed Tryd.func48 rfl rfl (Nat.le_of_ble_eq_true rfl) ?_; intro Γ C WK LP fin h0 hW hC hB hR hLP hfin
 (try (conv => whnf)); (repeat ((first | refine qT ?_ | refine qF ?_ | refine qO ?_ | (with_reducible intro z hz); (first | (replace hz := hz (by omega); subst hz) | subst hz) | (refine CallV.mk _ (hC _ _ _ (PCw.of hA)) (fun js hjs => ?_); subst hjs) | (refine CallV.mk _ (hC _ _ _ (PCw.of hCa)) (fun js hjs => ?_); subst hjs)); (try (conv => whnf))))
 refine CallV.row _ _ _ (hR _ _ _ _ _ (PCRw.of (hC1))) (fun js hjs => ?_); subst hjs
 (try (conv => whnf)); (repeat ((first | refine qT ?_ | refine qF ?_ | refine qO ?_ | (with_reducible intro z hz); (first | (replace hz := hz (by omega); subst hz) | subst hz)); (try (conv => whnf))))
 refine CallV.row _ _ _ (hR _ _ _ _ _ (PCRw.of (hC2))) (fun js hjs => ?_); subst hjs
 (try (conv => whnf)); (repeat ((first | refine qT ?_ | refine qF ?_ | refine qO ?_ | (with_reducible intro z hz); (first | (replace hz := hz (by omega); subst hz) | subst hz)); (try (conv => whnf))))
 refine CallV.row _ _ _ (hR _ _ _ _ _ (PCRw.of (hC3))) (fun js hjs => ?_); subst hjs
 (try (conv => whnf)); (repeat ((first | refine qT ?_ | refine qF ?_ | refine qO ?_ | (with_reducible intro z hz); (first | (replace hz := hz (by omega); subst hz) | subst hz)); (try (conv => whnf))))
 have hml : (l.map ancV).length = l.length := List.length_map _
 have hil : (iv ns).length = ns.length := List.length_map _
 have hk32 : u.kids.length ≤ 100000 := hou.2.2
 refine hLP _ _ _ Nat (fun k => ⟨[(1, .ptr 0 1 0), (2, .ptr 1 1 0), (4, .imm (.sl 1 (iv ns))), (26, .imm (.sl 2 (l.map ancV))), (27, .imm (.int .i64 (l.length : Nat))), (28, .imm (.int .i64 (k : Nat)))], [.box 1 [.imm (.int .i64 u.id.x), .imm (.int .i64 u.id.y), .imm (.int .i64 u.id.z), .imm (.int .i64 u.kind), .imm (.str u.label), .row 4 1, .row 5 1, .row 6 1], .box 1 [.imm (.int .i64 0), .imm (.int .i64 0), .imm (.int .i64 0), .imm (.int .i64 0), .imm (.str ⟨#[]⟩), .imm .nil, .imm .nil, .imm .nil], .dead 0, .dead 0, .row 52 4 1 ((u.head.map wdv).map .imm), .row 52 4 1 (((renWs ((l.take k).map Prod.fst) u.words).map wdv).map .imm), .row 27 8 1 (((renKs (ns.take k) u.kids).map uv).map .imm)]⟩) (fun k => k ≤ l.length) (fun k => l.length - k) 0 (Nat.zero_le _) (((WeakA.row 5 ((((renWs ((l.take 0).map Prod.fst) u.words).map wdv).map .imm)) rfl (by simp [renWs]))).trans (((WeakA.row 6 ((((renKs (ns.take 0) u.kids).map uv).map .imm)) rfl (by simp [renKs]))).trans (qSL 7 rfl rfl (hE := by (repeat ((conv => whnf); first | exact trivial | refine And.intro (by first | exact WkOne.any | exact WkOne.eq (by with_reducible rfl) rfl | exact WkOne.eq (congrArg (fun z => PV.imm (IV.int IntKind.i64 z)) (by first | omega | (simp [hml]; done) | (simp [hml]; omega))) rfl | exact WkOne.eq (by first | (simp [hml]; done) | fail) rfl | exact WkOne.eq rfl rfl | exact WkOne.le rfl (ILe.nil _)) ?_)))))) ?_
 intro k hk
 have hho := Nat.lt_or_ge k l.length
 cases hho with
 | inl hlt =>
   obtain ⟨a, ha⟩ : ∃ a, l[k]? = some a := ⟨l[k], List.getElem?_eq_getElem hlt⟩
   obtain ⟨n, hn⟩ : ∃ n, ns[k]? = some n := ⟨ns[k]'(by omega), List.getElem?_eq_getElem (by omega)⟩
   have hI := itoa_pc (k + 1) (by omega)
   rw [show (((k + 1 : Nat)) : Int) = (k : Int) + 1 by omega] at hI
   have hwl : (renWs ((l.take k).map Prod.fst) u.words).length = u.words.length := renWs_len _ _
   have hkl : (renKs (ns.take k) u.kids).length = u.kids.length := renKs_len _ _
   have hal2 := haat a (List.mem_of_getElem? ha)
   have hnl2 := hcat n (List.mem_of_getElem? hn)
   have hws := renWs_snoc ((l.take k).map Prod.fst) a.1 u.words
   have hks := renKs_snoc (ns.take k) n u.kids
   rw [show (l.take k).map Prod.fst ++ [a.1] = (l.take (k + 1)).map Prod.fst by rw [take_at ha, List.map_append]; rfl, List.length_map, List.length_take, Nat.min_eq_left hk] at hws
   rw [← take_at hn, List.length_take, Nat.min_eq_left (by omega)] at hks
   generalize hW' : renWs ((l.take (k + 1)).map Prod.fst) u.words = W' at hws
   generalize hK' : renKs (ns.take (k + 1)) u.kids = K' at hks
   generalize renWs ((l.take k).map Prod.fst) u.words = W at hwl hws
   generalize renKs (ns.take k) u.kids = K at hkl hks
   obtain ⟨w, hw⟩ : ∃ w, W[a.1]? = some w := ⟨W[a.1]'(by omega), List.getElem?_eq_getElem (by omega)⟩
   obtain ⟨x, hx⟩ : ∃ x, K[n]? = some x := ⟨K[n]'(by omega), List.getElem?_eq_getElem (by omega)⟩
   rw [modify_set _ W a.1 w hw] at hws
   rw [modify_set _ K n x hx] at hks
   have hux := uv_eq x
   have hRl : ((W.map wdv).map PV.imm).length = u.words.length := by simp [hwl]
   have hKl : ((K.map uv).map PV.imm).length = u.kids.length := by simp [hkl]
   have hsz : (⟨#[94]⟩ : Str).size + (decS (k + 1)).size ≤ most := by
     have h1 : (⟨#[94]⟩ : Str).size = 1 := rfl
     have h2 : (decS (k + 1)).size ≤ 2 := by
       unfold decS decB
       split <;> exact Nat.le_of_ble_eq_true rfl
     unfold most
     omega
   (try (conv => whnf)); (repeat ((first | refine qT ?_ | refine qF ?_ | refine qO ?_ | (with_reducible intro z hz); (first | (replace hz := hz (by omega); subst hz) | subst hz)); (try (conv => whnf))))
   refine Idx.mk k (ancV a) _ rfl (by simp [ha]) rfl ?_
   (try (conv => whnf)); (repeat ((first | refine qT ?_ | refine qF ?_ | refine qO ?_ | (with_reducible intro z hz); (first | (replace hz := hz (by omega); subst hz) | subst hz) | (refine CallV.mk _ (hC _ _ _ (PCw.of hI)) (fun js hjs => ?_); subst hjs)); (try (conv => whnf))))
   refine Pos.mk a.1 rfl (by omega) ?_
   (try (conv => whnf)); (repeat ((first | refine qT ?_ | refine qF ?_ | refine qO ?_ | (with_reducible intro z hz); (first | (replace hz := hz (by omega); subst hz) | subst hz)); (try (conv => whnf))))
   refine At.mk (.imm (wdv w)) (by rw [List.getElem?_map, List.getElem?_map, hw]; rfl) ?_
   (try (conv => whnf)); (repeat ((first | refine qT ?_ | refine qF ?_ | refine qO ?_ | (with_reducible intro z hz); (first | (replace hz := hz (by omega); subst hz) | subst hz)); (try (conv => whnf))))
   refine Idx.mk k (.int .i64 (n : Nat)) _ rfl (by simp [iv, hn]) rfl ?_
   (try (conv => whnf)); (repeat ((first | refine qT ?_ | refine qF ?_ | refine qO ?_ | (with_reducible intro z hz); (first | (replace hz := hz (by omega); subst hz) | subst hz)); (try (conv => whnf))))
   refine Pos.mk n rfl (by omega) ?_
   (try (conv => whnf)); (repeat ((first | refine qT ?_ | refine qF ?_ | refine qO ?_ | (with_reducible intro z hz); (first | (replace hz := hz (by omega); subst hz) | subst hz)); (try (conv => whnf))))
   refine At.mk (.imm (uv x)) (by rw [List.getElem?_map, List.getElem?_map, hx]; rfl) ?_
   rw [hux]
   (try (conv => whnf)); (repeat ((first | refine qT ?_ | refine qF ?_ | refine qO ?_ | (with_reducible intro z hz); (first | (replace hz := hz (by omega); subst hz) | subst hz)); (try (conv => whnf))))
   refine ⟨k + 1, by omega, by dsimp only; omega, ?_⟩
   dsimp only
   rw [hW', hK']
   exact ((WeakA.row 5 (((W'.map wdv).map .imm)) rfl (by rw [hws, List.map_set, List.map_set]; rfl))).trans (((WeakA.row 6 (((K'.map uv).map .imm)) rfl (by rw [hks, List.map_set, List.map_set]; show _ = List.set _ _ (PV.imm (uv (.mk _ _ _ _ _ _))); rw [uv_mk]; rfl))).trans (qSL 7 rfl rfl))
 | inr hge =>
   obtain rfl : k = l.length := by omega
   rw [List.take_length, ← hgl, List.take_length]
   have hKat : ∀ (k : Nat) (y : Ut), (renKs ns u.kids)[k]? = some y → y.count ≤ N ∧ OkT y ∧ GoodR y := by
     intro k y hy
     obtain ⟨x, hx, s, rfl⟩ := renKs_at _ _ k y hy
     have hxm := List.mem_of_getElem? hx
     have h1 := kid_lt' hx
     refine ⟨by rw [relab_count]; omega, relab_ok s fun z hz => hok z (kid_all hxm hz), relab_good s fun z hz => hgr z (kid_all hxm hz)⟩
   have hkl : (renKs ns u.kids).length = u.kids.length := renKs_len _ _
   generalize renKs ns u.kids = K at hKat hkl hfin ⊢
   generalize renWs (l.map Prod.fst) u.words = W at hfin ⊢
   have hml2 : ((K.map uv).map PV.imm).length = K.length := by simp
   (try (conv => whnf)); (repeat ((first | refine qT ?_ | refine qF ?_ | refine qO ?_ | (with_reducible intro z hz); (first | (replace hz := hz (by omega); subst hz) | subst hz)); (try (conv => whnf))))
   refine hLP _ _ _ Nat (fun k => ⟨[(1, .ptr 0 1 0), (2, .ptr 1 1 0), (55, .row 6 1), (56, .imm (.int .i64 (K.length : Nat))), (57, .imm (.int .i64 (k : Nat)))], [.box 1 [.imm (.int .i64 u.id.x), .imm (.int .i64 u.id.y), .imm (.int .i64 u.id.z), .imm (.int .i64 u.kind), .imm (.str u.label), .row 4 1, .row 5 1, .row 6 1], .box 1 [.imm (.int .i64 0), .imm (.int .i64 0), .imm (.int .i64 0), .imm (.int .i64 0), .imm (.str ⟨#[]⟩), .imm .nil, .imm .nil, .imm .nil], .dead 0, .dead 0, .row 52 4 1 ((u.head.map wdv).map .imm), .row 52 4 1 ((W.map wdv).map .imm), .row 27 8 1 ((((K.take k).map renum ++ K.drop k).map uv).map .imm)]⟩) (fun k => k ≤ K.length) (fun k => K.length - k) 0 (Nat.zero_le _) (((WeakA.row 6 (((((K.take 0).map renum ++ K.drop 0).map uv).map .imm)) rfl (by simp))).trans (qSL 7 rfl rfl (hE := by (repeat ((conv => whnf); first | exact trivial | refine And.intro (by first | exact WkOne.any | exact WkOne.eq (by with_reducible rfl) rfl | exact WkOne.eq (congrArg (fun z => PV.imm (IV.int IntKind.i64 z)) (by first | omega | (simp [hml2]; done) | (simp [hml2]; omega))) rfl | exact WkOne.eq (by first | (simp [hml2]; done) | fail) rfl | exact WkOne.eq rfl rfl | exact WkOne.le rfl (ILe.nil _)) ?_))))) ?_
   intro k hk
   have hho := Nat.lt_or_ge k K.length
   cases hho with
   | inr hge =>
     obtain rfl : k = K.length := by omega
     rw [List.take_length, List.drop_length, List.append_nil]
     (try (conv => whnf)); (repeat ((first | refine qT ?_ | refine qF ?_ | refine qO ?_ | (with_reducible intro z hz); (first | (replace hz := hz (by omega); subst hz) | subst hz)); (try (conv => whnf))))
     refine Imms.mk (u.head.map wdv) rfl ?_
     (try (conv => whnf)); (repeat ((first | refine qT ?_ | refine qF ?_ | refine qO ?_ | (with_reducible intro z hz); (first | (replace hz := hz (by omega); subst hz) | subst hz)); (try (conv => whnf))))
     refine Imms.mk (W.map wdv) rfl ?_
     (try (conv => whnf)); (repeat ((first | refine qT ?_ | refine qF ?_ | refine qO ?_ | (with_reducible intro z hz); (first | (replace hz := hz (by omega); subst hz) | subst hz)); (try (conv => whnf))))
     refine Imms.mk ((K.map renum).map uv) rfl ?_
     (try (conv => whnf)); (repeat ((first | refine qT ?_ | refine qF ?_ | refine qO ?_ | (with_reducible intro z hz); (first | (replace hz := hz (by omega); subst hz) | subst hz)); (try (conv => whnf))))
     exact hfin _ (ILes.refl _)
   | inl hlt =>
     obtain ⟨x, hx⟩ : ∃ x, K[k]? = some x := ⟨K[k], List.getElem?_eq_getElem hlt⟩
     obtain ⟨hx1, hx2, hx3⟩ := hKat k x hx
     have hI := ih x hx1 hx2 hx3
     have hux := uv_eq x
     have hst := (set_step (f := renum) hx).2
     have hRl : ((((K.take k).map renum ++ K.drop k).map uv).map PV.imm).length = K.length := by simp; omega
     have hat : ((K.take k).map renum ++ K.drop k)[k]? = some x := by
       rw [(set_step (f := renum) hx).1, List.getElem?_append_right (by simp; omega)]
       simp [Nat.min_eq_left (Nat.le_of_lt hlt)]
     rw [hux] at hI
     generalize hy : renum x = y at hI hst
     rw [uv_eq y] at hI
     (try (conv => whnf)); (repeat ((first | refine qT ?_ | refine qF ?_ | refine qO ?_ | (with_reducible intro z hz); (first | (replace hz := hz (by omega); subst hz) | subst hz)); (try (conv => whnf))))
     refine Pos.mk k rfl (by omega) ?_
     (try (conv => whnf)); (repeat ((first | refine qT ?_ | refine qF ?_ | refine qO ?_ | (with_reducible intro z hz); (first | (replace hz := hz (by omega); subst hz) | subst hz)); (try (conv => whnf))))
     refine At.mk (.imm (uv x)) (by rw [List.getElem?_map, List.getElem?_map, hat]; rfl) ?_
     rw [hux]
     (try (conv => whnf)); (repeat ((first | refine qT ?_ | refine qF ?_ | refine qO ?_ | (with_reducible intro z hz); (first | (replace hz := hz (by omega); subst hz) | subst hz) | (refine CallV.mk _ (hC _ _ _ (PCw.of hI)) (fun js hjs => ?_); subst hjs)); (try (conv => whnf))))
     refine Pos.mk k rfl (by omega) ?_
     (try (conv => whnf)); (repeat ((first | refine qT ?_ | refine qF ?_ | refine qO ?_ | (with_reducible intro z hz); (first | (replace hz := hz (by omega); subst hz) | subst hz)); (try (conv => whnf))))
     refine At.mk (.imm (uv x)) (by rw [List.getElem?_map, List.getElem?_map, hat]; rfl) ?_
     rw [hux]
     (try (conv => whnf)); (repeat ((first | refine qT ?_ | refine qF ?_ | refine qO ?_ | (with_reducible intro z hz); (first | (replace hz := hz (by omega); subst hz) | subst hz)); (try (conv => whnf))))
     exact ⟨k + 1, by omega, by dsimp only; omega, ((WeakA.row 6 (((((K.take (k + 1)).map renum ++ K.drop (k + 1)).map uv).map .imm)) rfl (by rw [hst, List.map_set, List.map_set, uv_eq y]; rfl))).trans (qSL 7 rfl rfl)⟩
end Go.Proofs.YtkjgmnmngbfhhaaDoor.Pn
