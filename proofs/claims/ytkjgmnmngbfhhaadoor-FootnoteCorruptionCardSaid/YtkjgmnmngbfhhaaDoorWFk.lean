/-
  The reference's Check. The reference's Check, walked.
-/
import Derived.Test.YtkjgmnmngbfhhaaDoorWFi
namespace Go.Proofs.YtkjgmnmngbfhhaaDoor.Pn
open Go Go.Pv Go.RowKit Go.Proofs.YtkjgmnmngbfhhaaDoor.Pb
set_option linter.unusedSimpArgs false
open Lab Lcs Go.Proofs.YtkjgmnmngbfhhaaDoor Go.Proofs.YtkjgmnmngbfhhaaDoor.Pu
set_option maxRecDepth 10000
set_option maxHeartbeats 16000000
def nwK (f : FuncId) : Nat := bif Nat.beq f 39 then 1 else 0
def tbk (fr : Nat → List Nat) (hk : Nat → Bool) : Tb := ⟨Pv.look tdl, eqs, fun _ => none, fr, hk, nwK⟩
def tbr : Tb := tbk (fun _ => []) fun _ => false
theorem tbk_ok {fr : Nat → List Nat} {hk : Nat → Bool} : ∀ t d, (tbk fr hk).td t = some d → tdOf Tryd.prog t = some d := Pv.look_ok tdl_ok
theorem place_pcb (L : List Str) (s : Str) (hl : L.length ≤ 100000000) : PCB Tryd.prog env0 39 [.row 0 1, .imm (.str s)] [.row 9 1 1 ((sv L).map .imm)] [.imm (.int .i64 (idxZ (fun x => decide (x = s)) L))] [.row 9 1 1 ((sv L).map .imm)] := by
 have hml : ((sv L).map PV.imm).length = L.length := by simp [sv]
 refine PCB.of_va (T := tb0) eqs_ok tb_ok rfl mixed Tryd.func39 rfl rfl rfl (Nat.le_of_ble_eq_true rfl) rfl ?_; intro Γ C WK LP fin h0 hk0 hW hC hB hR hLP hfin
 (try (conv => whnf)); (repeat ((first | refine qT ?_ | refine qF ?_ | refine qO ?_ | (with_reducible intro z hz); (first | (replace hz := hz (by omega); subst hz) | subst hz)); (try (conv => whnf))))
 refine hLP _ _ _ Nat (fun k => ⟨[(0, .row 0 1), (1, .imm (.str s)), (5, .imm (.int .i64 (k : Nat)))], [.row 9 1 1 ((sv L).map .imm)]⟩) (fun k => k ≤ L.length ∧ ∀ x ∈ L.take k, (fun x => decide (x = s)) x = false) (fun k => L.length - k) 0 ⟨Nat.zero_le _, by simp⟩ (qSL 1 rfl rfl) ?_
 rintro k ⟨hk, hp⟩
 have hho := Nat.lt_or_ge k L.length
 cases hho with
 | inl hlt =>
   obtain ⟨x, hx⟩ : ∃ x, L[k]? = some x := ⟨L[k], List.getElem?_eq_getElem hlt⟩
   by_cases hxs : x = s
   · have hih := idxZ_hit (p := fun x => decide (x = s)) hx (decide_eq_true hxs) hp
     (try (conv => whnf)); (repeat ((first | refine qT ?_ | refine qF ?_ | refine qO ?_ | (with_reducible intro z hz); (first | (replace hz := hz (by omega); subst hz) | subst hz)); (try (conv => whnf))))
     refine Pos.mk k rfl (by omega) ?_
     (try (conv => whnf)); (repeat ((first | refine qT ?_ | refine qF ?_ | refine qO ?_ | (with_reducible intro z hz); (first | (replace hz := hz (by omega); subst hz) | subst hz)); (try (conv => whnf))))
     refine At.mk (.imm (.str x)) (by simp [sv, hx]) ?_
     (try (conv => whnf)); (repeat ((first | refine qT ?_ | refine qF ?_ | refine qO ?_ | (with_reducible intro z hz); (first | (replace hz := hz (by omega); subst hz) | subst hz)); (try (conv => whnf))))
     rw [hih] at hfin
     exact hfin _ (qSL 1 rfl rfl)
   · (try (conv => whnf)); (repeat ((first | refine qT ?_ | refine qF ?_ | refine qO ?_ | (with_reducible intro z hz); (first | (replace hz := hz (by omega); subst hz) | subst hz)); (try (conv => whnf))))
     refine Pos.mk k rfl (by omega) ?_
     (try (conv => whnf)); (repeat ((first | refine qT ?_ | refine qF ?_ | refine qO ?_ | (with_reducible intro z hz); (first | (replace hz := hz (by omega); subst hz) | subst hz)); (try (conv => whnf))))
     refine At.mk (.imm (.str x)) (by simp [sv, hx]) ?_
     (try (conv => whnf)); (repeat ((first | refine qT ?_ | refine qF ?_ | refine qO ?_ | (with_reducible intro z hz); (first | (replace hz := hz (by omega); subst hz) | subst hz)); (try (conv => whnf))))
     exact ⟨k + 1, ⟨by omega, fun y hy => by
       rw [take_at hx, List.mem_append] at hy
       rcases hy with hy | hy
       · exact hp y hy
       · rw [List.mem_singleton.1 hy]; exact decide_eq_false hxs⟩, by dsimp only; omega, (qSL 1 rfl rfl)⟩
 | inr hge =>
   obtain rfl : k = L.length := by omega
   rw [List.take_length] at hp
   rw [idxZ_none hp] at hfin
   (try (conv => whnf)); (repeat ((first | refine qT ?_ | refine qF ?_ | refine qO ?_ | (with_reducible intro z hz); (first | (replace hz := hz (by omega); subst hz) | subst hz)); (try (conv => whnf))))
   exact hfin _ (qSL 1 rfl rfl)
theorem place_in (L : List Str) (s : Str) : (0 ≤ idxZ (fun x => decide (x = s)) L) ↔ inB s L = true := by
 unfold idxZ inB
 cases L.any fun x => decide (x = s) with
 | true => simp
 | false => simp
theorem note_in (l : List Ut) (s : Str) : (idxZ (isNote s) l < 0) ↔ noteO l s = none := by
 rw [noteO_idx]
 cases noteO l s <;> simp
theorem lost_iff {u : Ut} {k : Nat} {x : Ut} (hx : u.kids[k]? = some x) : k ∈ callN u ↔ inB x.label (labL u.words) = true ∧ noteO u.kids x.label = some k := by
 unfold callN
 rw [callsL_mem, inB_mem]
 constructor
 · rintro ⟨a, ha, hn⟩
   obtain ⟨y, hy, hi, _⟩ := noteO_some hn
   rw [hx] at hy
   cases hy
   unfold isNote at hi
   simp only [Bool.and_eq_true, decide_eq_true_eq] at hi
   rw [hi.2]
   exact ⟨List.mem_map.2 ⟨a, ha, rfl⟩, hn⟩
 · rintro ⟨h1, h2⟩
   obtain ⟨a, ha, he⟩ := List.mem_map.1 h1
   exact ⟨a, ha, by rw [he]; exact h2⟩
theorem note_here {u : Ut} {k : Nat} {x : Ut} (hx : u.kids[k]? = some x) (h7 : x.kind = 7) : (idxZ (isNote x.label) u.kids = (k : Int)) ↔ noteO u.kids x.label = some k := by
 rw [noteO_idx]
 cases hn : noteO u.kids x.label with
 | some j => simp only [Option.some.injEq]; omega
 | none =>
   have := noteO_none hn x (List.mem_of_getElem? hx)
   unfold isNote at this
   rw [decide_eq_true h7, decide_eq_true rfl] at this
   cases this
end Go.Proofs.YtkjgmnmngbfhhaaDoor.Pn
namespace Go.Proofs.YtkjgmnmngbfhhaaDoor.Pn
open Go Go.Pv Go.RowKit Go.Proofs.YtkjgmnmngbfhhaaDoor.Pb
set_option linter.unusedSimpArgs false
open Lab Lcs Go.Proofs.YtkjgmnmngbfhhaaDoor Go.Proofs.YtkjgmnmngbfhhaaDoor.Pu
set_option maxRecDepth 10000
set_option maxHeartbeats 16000000
theorem fds_kids (u : Ut) (k : Nat) (hok : OkT u) : (fdsL (Ut.alls (u.kids.take k))).length ≤ 200000 * u.count := by
 have h := fdsL_len (Ut.alls (u.kids.take k)) fun y hy => hok y (by
   rw [Ut.all_eq]
   obtain ⟨z, hz, hyz⟩ := mem_alls.1 hy
   exact List.mem_cons_of_mem _ (mem_alls.2 ⟨z, List.mem_of_mem_take hz, hyz⟩))
 rw [alls_len] at h
 have h2 : Ut.counts (u.kids.take k) ≤ Ut.counts u.kids := by
   have := List.take_append_drop k u.kids
   have hc : ∀ a b : List Ut, Ut.counts (a ++ b) = Ut.counts a + Ut.counts b := by
     intro a b
     induction a with
     | nil => simp [Ut.counts]
     | cons y a ih => simp only [List.cons_append, Ut.counts]; omega
   rw [← this, hc]
   rw [this]
   exact Nat.le_add_right _ _
 have h3 := Ut.count_eq u
 omega
theorem rcheck_pcr (N : Nat) : ∀ u : Ut, u.count ≤ N → N ≤ 1000 → OkT u → PCR Tryd.prog env0 17 [uv u] 66 6 ((fdsL u.all).map fdv) := by
 induction N with
 | zero => intro u h; have := count_pos u; omega
 | succ N ih =>
 intro u hN hM hok
 have hue := uv_eq u
 have hmem : u ∈ u.all := by rw [Ut.all_eq]; exact List.mem_cons_self
 have hou := hok u hmem
 have hall := fdsL_all u
 have hpl := perC_len u hou
 have hml : (u.words.map wdv).length = u.words.length := List.length_map _
 have hkl : (u.kids.map uv).length = u.kids.length := List.length_map _
 have hw := hou.1
 have hk0 := hou.2.2
 have hno : ∀ s, PC Tryd.prog env0 40 [.agg [.int .i64 u.id.x, .int .i64 u.id.y, .int .i64 u.id.z, .int .i64 u.kind, .str u.label, .sl 4 (u.head.map wdv), .sl 4 (u.words.map wdv), .sl 8 (u.kids.map uv)], .str s] [.int .i64 (idxZ (isNote s) u.kids)] := fun s => by
   have := note_pc u s (by omega)
   rwa [hue] at this
 rw [hue]
 refine PCR.of_va (T := tbr) eqs_ok tbk_ok rfl mixed Tryd.func17 rfl rfl (Nat.le_of_ble_eq_true rfl) rfl ?_; intro Γ C WK LP fin h0 hW hC hB hR hLP hfin
 (try (conv => whnf)); (repeat ((first | refine qT ?_ | refine qF ?_ | refine qO ?_ | (with_reducible intro z hz); (first | (replace hz := hz (by omega); subst hz) | subst hz)); (try (conv => whnf))))
 refine hLP _ _ _ Nat (fun k => ⟨[(1, .ptr 0 1 0), (3, .row 1 1), (4, .row 2 1), (5, .imm (.int .i64 (k : Nat)))], [.box 1 [.imm (.int .i64 u.id.x), .imm (.int .i64 u.id.y), .imm (.int .i64 u.id.z), .imm (.int .i64 u.kind), .imm (.str u.label), .imm (.sl 4 (u.head.map wdv)), .imm (.sl 4 (u.words.map wdv)), .imm (.sl 8 (u.kids.map uv))], .row 66 6 1 (((badL u [] (ancL (u.words.take k))).map fdv).map .imm), .row 9 1 1 ((sv (labL (u.words.take k))).map .imm)]⟩) (fun k => k ≤ u.words.length) (fun k => u.words.length - k) 0 (Nat.zero_le _) (((WeakA.row 1 ((((badL u [] (ancL (u.words.take 0))).map fdv).map .imm)) rfl (by simp [ancL_nil, badL]))).trans (((WeakA.row 2 (((sv (labL (u.words.take 0))).map .imm)) rfl (by simp [labL, ancL_nil, sv]))).trans (qSL 3 rfl rfl))) ?_
 intro k hk
 have hho := Nat.lt_or_ge k u.words.length
 cases hho with
 | inl hlt =>
   obtain ⟨a, ha⟩ : ∃ a, u.words[k]? = some a := ⟨u.words[k], List.getElem?_eq_getElem hlt⟩
   have hP := ranchor_pc a.text (by have := hou.2.1 a (List.mem_of_getElem? ha); omega)
   have hs1 := ancL_snoc (u.words.take k) a
   have hs2 := labL_snoc (u.words.take k) a
   rw [← take_at ha, List.length_take, Nat.min_eq_left hk] at hs1
   rw [← take_at ha] at hs2
   have hb1 := badL_len u (ancL (u.words.take k)) []
   have hb2 := ancL_len (u.words.take k)
   have hb3 := labL_len (u.words.take k)
   rw [List.length_take] at hb2 hb3
   have hRl : (((badL u [] (ancL (u.words.take k))).map fdv).map PV.imm).length ≤ k := by rw [List.length_map, List.length_map]; omega
   have hSl : ((sv (labL (u.words.take k))).map PV.imm).length ≤ k := by rw [List.length_map, sv_len]; omega
   have hOw : (((badL u [] (ancL (u.words.take k))).map fdv).map PV.imm).length + 1 ≤ most := by unfold most; omega
   have hOw2 : ((sv (labL (u.words.take k))).map PV.imm).length + 1 ≤ most := by unfold most; omega
   unfold ancS at hP
   cases hb : ancB a.text
   · rw [hb] at hP hs1 hs2
     simp only [Bool.false_eq_true, if_false, List.append_nil] at hP hs1 hs2
     (try (conv => whnf)); (repeat ((first | refine qT ?_ | refine qF ?_ | refine qO ?_ | (with_reducible intro z hz); (first | (replace hz := hz (by omega); subst hz) | subst hz)); (try (conv => whnf))))
     refine Idx.mk k (wdv a) _ rfl (by simp [ha]) rfl ?_
     (try (conv => whnf)); (repeat ((first | refine qT ?_ | refine qF ?_ | refine qO ?_ | (with_reducible intro z hz); (first | (replace hz := hz (by omega); subst hz) | subst hz) | (refine CallV.mk _ (hC _ _ _ (PCw.of hP)) (fun js hjs => ?_); subst hjs)); (try (conv => whnf))))
     exact ⟨k + 1, by omega, by dsimp only; omega, ((WeakA.row 1 ((((badL u [] (ancL (u.words.take (k + 1)))).map fdv).map .imm)) rfl (by rw [hs1]))).trans (((WeakA.row 2 (((sv (labL (u.words.take (k + 1)))).map .imm)) rfl (by rw [hs2]))).trans (qSL 3 rfl rfl))⟩
   · rw [hb] at hP hs1 hs2
     simp only [if_true] at hP hs1 hs2
     have hsn := badL_snoc u (ancL (u.words.take k)) (k, restS a.text)
     rw [← hs1] at hsn
     have hpc := place_pcb (labL (u.words.take k)) (restS a.text) (by omega)
     have hpi := place_in (labL (u.words.take k)) (restS a.text)
     have hnt := hno (restS a.text)
     have hni := note_in u.kids (restS a.text)
     unfold badA at hsn
     dsimp only at hsn
     have hlab : (ancL (u.words.take k)).map Prod.snd = labL (u.words.take k) := rfl
     rw [hlab] at hsn
     generalize idxZ (fun x => decide (x = restS a.text)) (labL (u.words.take k)) = z at hpc hpi
     generalize idxZ (isNote (restS a.text)) u.kids = y at hnt hni
     cases hin : inB (restS a.text) (labL (u.words.take k))
     rotate_left
     · rw [hin, if_pos rfl] at hsn
       have hz := hpi.2 hin
       (try (conv => whnf)); (repeat ((first | refine qT ?_ | refine qF ?_ | refine qO ?_ | (with_reducible intro z hz); (first | (replace hz := hz (by omega); subst hz) | subst hz)); (try (conv => whnf))))
       refine Idx.mk k (wdv a) _ rfl (by simp [ha]) rfl ?_
       (try (conv => whnf)); (repeat ((first | refine qT ?_ | refine qF ?_ | refine qO ?_ | (with_reducible intro z hz); (first | (replace hz := hz (by omega); subst hz) | subst hz) | (refine CallV.mk _ (hC _ _ _ (PCw.of hP)) (fun js hjs => ?_); subst hjs)); (try (conv => whnf))))
       refine Imms.mk (sv (labL (u.words.take k))) rfl ?_
       (try (conv => whnf)); (repeat ((first | refine qT ?_ | refine qF ?_ | refine qO ?_ | (with_reducible intro z hz); (first | (replace hz := hz (by omega); subst hz) | subst hz)); (try (conv => whnf))))
       refine CallB.mk ([.imm (.int .i64 z)]) ([.row 9 1 1 (sv (labL (u.words.take k)))]) (hB _ _ _ _ _ (hpc)) ?_
       (try (conv => whnf)); (repeat ((first | refine qT ?_ | refine qF ?_ | refine qO ?_ | (with_reducible intro z hz); (first | (replace hz := hz (by omega); subst hz) | subst hz)); (try (conv => whnf))))
       exact ⟨k + 1, by omega, by dsimp only; omega, ((WeakA.row 1 ((((badL u [] (ancL (u.words.take (k + 1)))).map fdv).map .imm)) rfl (by rw [hsn]; simp [fdv, fdl]))).trans (((WeakA.row 2 (((sv (labL (u.words.take (k + 1)))).map .imm)) rfl (by rw [hs2]; simp [sv]))).trans ((WeakA.renew 1 1 rfl (by first | omega | (intro _; rw [hk0 _ _ rfl]; exact Nat.le_of_ble_eq_true rfl)) (by repeat (first | exact trivial | refine And.intro (rgL_imms _ _ _ _) ?_ | refine And.intro rfl ?_))).trans ((WeakA.renew 2 1 rfl (by first | omega | (intro _; rw [hk0 _ _ rfl]; exact Nat.le_of_ble_eq_true rfl)) (by repeat (first | exact trivial | refine And.intro (rgL_imms _ _ _ _) ?_ | refine And.intro rfl ?_))).trans (qSL 3 rfl rfl))))⟩
     · rw [hin, if_neg (by simp)] at hsn
       have hz : ¬ 0 ≤ z := fun h => by rw [hpi.1 h] at hin; cases hin
       cases hnn : noteO u.kids (restS a.text) with
       | none =>
         rw [hnn] at hsn
         have hy := hni.2 hnn
         dsimp only at hsn
         (try (conv => whnf)); (repeat ((first | refine qT ?_ | refine qF ?_ | refine qO ?_ | (with_reducible intro z hz); (first | (replace hz := hz (by omega); subst hz) | subst hz)); (try (conv => whnf))))
         refine Idx.mk k (wdv a) _ rfl (by simp [ha]) rfl ?_
         (try (conv => whnf)); (repeat ((first | refine qT ?_ | refine qF ?_ | refine qO ?_ | (with_reducible intro z hz); (first | (replace hz := hz (by omega); subst hz) | subst hz) | (refine CallV.mk _ (hC _ _ _ (PCw.of hP)) (fun js hjs => ?_); subst hjs)); (try (conv => whnf))))
         refine Imms.mk (sv (labL (u.words.take k))) rfl ?_
         (try (conv => whnf)); (repeat ((first | refine qT ?_ | refine qF ?_ | refine qO ?_ | (with_reducible intro z hz); (first | (replace hz := hz (by omega); subst hz) | subst hz)); (try (conv => whnf))))
         refine CallB.mk ([.imm (.int .i64 z)]) ([.row 9 1 1 (sv (labL (u.words.take k)))]) (hB _ _ _ _ _ (hpc)) ?_
         (try (conv => whnf)); (repeat ((first | refine qT ?_ | refine qF ?_ | refine qO ?_ | (with_reducible intro z hz); (first | (replace hz := hz (by omega); subst hz) | subst hz) | (refine CallV.mk _ (hC _ _ _ (PCw.of hnt)) (fun js hjs => ?_); subst hjs)); (try (conv => whnf))))
         exact ⟨k + 1, by omega, by dsimp only; omega, ((WeakA.row 1 ((((badL u [] (ancL (u.words.take (k + 1)))).map fdv).map .imm)) rfl (by rw [hsn]; simp [fdv, fdl]))).trans (((WeakA.row 2 (((sv (labL (u.words.take (k + 1)))).map .imm)) rfl (by rw [hs2]; simp [sv]))).trans ((WeakA.renew 1 1 rfl (by first | omega | (intro _; rw [hk0 _ _ rfl]; exact Nat.le_of_ble_eq_true rfl)) (by repeat (first | exact trivial | refine And.intro (rgL_imms _ _ _ _) ?_ | refine And.intro rfl ?_))).trans ((WeakA.renew 2 1 rfl (by first | omega | (intro _; rw [hk0 _ _ rfl]; exact Nat.le_of_ble_eq_true rfl)) (by repeat (first | exact trivial | refine And.intro (rgL_imms _ _ _ _) ?_ | refine And.intro rfl ?_))).trans (qSL 3 rfl rfl))))⟩
       | some j =>
         rw [hnn] at hsn
         have hy : ¬ y < 0 := fun h => by rw [hni.1 h] at hnn; cases hnn
         dsimp only at hsn
         rw [List.append_nil] at hsn
         (try (conv => whnf)); (repeat ((first | refine qT ?_ | refine qF ?_ | refine qO ?_ | (with_reducible intro z hz); (first | (replace hz := hz (by omega); subst hz) | subst hz)); (try (conv => whnf))))
         refine Idx.mk k (wdv a) _ rfl (by simp [ha]) rfl ?_
         (try (conv => whnf)); (repeat ((first | refine qT ?_ | refine qF ?_ | refine qO ?_ | (with_reducible intro z hz); (first | (replace hz := hz (by omega); subst hz) | subst hz) | (refine CallV.mk _ (hC _ _ _ (PCw.of hP)) (fun js hjs => ?_); subst hjs)); (try (conv => whnf))))
         refine Imms.mk (sv (labL (u.words.take k))) rfl ?_
         (try (conv => whnf)); (repeat ((first | refine qT ?_ | refine qF ?_ | refine qO ?_ | (with_reducible intro z hz); (first | (replace hz := hz (by omega); subst hz) | subst hz)); (try (conv => whnf))))
         refine CallB.mk ([.imm (.int .i64 z)]) ([.row 9 1 1 (sv (labL (u.words.take k)))]) (hB _ _ _ _ _ (hpc)) ?_
         (try (conv => whnf)); (repeat ((first | refine qT ?_ | refine qF ?_ | refine qO ?_ | (with_reducible intro z hz); (first | (replace hz := hz (by omega); subst hz) | subst hz) | (refine CallV.mk _ (hC _ _ _ (PCw.of hnt)) (fun js hjs => ?_); subst hjs)); (try (conv => whnf))))
         exact ⟨k + 1, by omega, by dsimp only; omega, ((WeakA.row 1 ((((badL u [] (ancL (u.words.take (k + 1)))).map fdv).map .imm)) rfl (by rw [hsn]))).trans (((WeakA.row 2 (((sv (labL (u.words.take (k + 1)))).map .imm)) rfl (by rw [hs2]; simp [sv]))).trans ((WeakA.renew 2 1 rfl (by first | omega | (intro _; rw [hk0 _ _ rfl]; exact Nat.le_of_ble_eq_true rfl)) (by repeat (first | exact trivial | refine And.intro (rgL_imms _ _ _ _) ?_ | refine And.intro rfl ?_))).trans (qSL 3 rfl rfl)))⟩
 | inr hge =>
   obtain rfl : k = u.words.length := by omega
   rw [List.take_length]
   have hfa : badL u [] (ancL u.words) = faultN u := rfl
   have hpe : perC u = faultN u ++ lostN u := rfl
   have hlo : lostN u = lostL (callN u) 0 u.kids := rfl
   rw [hfa]
   have hfl := faultN_len u
   have hll := labL_len u.words
   generalize faultN u = F at hfl hpe hfa
   (try (conv => whnf)); (repeat ((first | refine qT ?_ | refine qF ?_ | refine qO ?_ | (with_reducible intro z hz); (first | (replace hz := hz (by omega); subst hz) | subst hz)); (try (conv => whnf))))
   refine hLP _ _ _ Nat (fun k => ⟨[(1, .ptr 0 1 0), (3, .row 1 1), (4, .row 2 1), (8, .imm (.int .i64 (k : Nat)))], [.box 1 [.imm (.int .i64 u.id.x), .imm (.int .i64 u.id.y), .imm (.int .i64 u.id.z), .imm (.int .i64 u.kind), .imm (.str u.label), .imm (.sl 4 (u.head.map wdv)), .imm (.sl 4 (u.words.map wdv)), .imm (.sl 8 (u.kids.map uv))], .row 66 6 1 (((F ++ lostL (callN u) 0 (u.kids.take k)).map fdv).map .imm), .row 9 1 1 ((sv (labL u.words)).map .imm)]⟩) (fun k => k ≤ u.kids.length) (fun k => u.kids.length - k) 0 (Nat.zero_le _) (((WeakA.row 1 ((((F ++ lostL (callN u) 0 (u.kids.take 0)).map fdv).map .imm)) rfl (by simp [lostL]))).trans (qSL 3 rfl rfl)) ?_
   intro k hk
   have hho := Nat.lt_or_ge k u.kids.length
   cases hho with
   | inl hlt =>
     refine (?_ : ∀ Q : Exit → AS → Prop, vcS _ _ _ _ _ _ _ (loopQA _ _ _ _ _ _ Q)) _; intro Q
     obtain ⟨x, hx⟩ : ∃ x, u.kids[k]? = some x := ⟨u.kids[k], List.getElem?_eq_getElem hlt⟩
     have hux := uv_eq x
     have hsn := lostL_snoc (callN u) (u.kids.take k) x
     rw [← take_at hx, List.length_take, Nat.min_eq_left hk] at hsn
     have hlk := lostL_len (callN u) (u.kids.take k) 0
     rw [List.length_take] at hlk
     have hRl : (((F ++ lostL (callN u) 0 (u.kids.take k)).map fdv).map PV.imm).length ≤ 100000 + k := by
       rw [List.length_map, List.length_map, List.length_append]
       omega
     have hOw : (((F ++ lostL (callN u) 0 (u.kids.take k)).map fdv).map PV.imm).length + 1 ≤ most := by unfold most; omega
     unfold lostA at hsn
     by_cases h7 : x.kind = 7
     rotate_left
     · rw [if_neg fun hc => h7 hc.1, List.append_nil] at hsn
       (try (conv => whnf)); (repeat ((first | refine qT ?_ | refine qF ?_ | refine qO ?_ | (with_reducible intro z hz); (first | (replace hz := hz (by omega); subst hz) | subst hz)); (try (conv => whnf))))
       refine Idx.mk k (uv x) _ rfl (by simp [hx]) (by rw [hux]; try rfl) ?_
       (try (conv => whnf)); (repeat ((first | refine qT ?_ | refine qF ?_ | refine qO ?_ | (with_reducible intro z hz); (first | (replace hz := hz (by omega); subst hz) | subst hz)); (try (conv => whnf))))
       exact ⟨k + 1, by omega, by dsimp only; omega, ((WeakA.row 1 ((((F ++ lostL (callN u) 0 (u.kids.take (k + 1))).map fdv).map .imm)) rfl (by rw [hsn]))).trans (qSL 3 rfl rfl)⟩
     have hli := lost_iff hx
     have hnh := note_here hx h7
     have hpc := place_pcb (labL u.words) x.label (by omega)
     have hpi := place_in (labL u.words) x.label
     have hnt := hno x.label
     generalize idxZ (fun y => decide (y = x.label)) (labL u.words) = z at hpc hpi
     generalize idxZ (isNote x.label) u.kids = y at hnt hnh
     cases hin : inB x.label (labL u.words)
     · have hz : ¬ 0 ≤ z := fun h => by rw [hpi.1 h] at hin; cases hin
       rw [hin] at hli
       rw [if_pos ⟨h7, fun hc => by cases (hli.1 hc).1⟩] at hsn
       (try (conv => whnf)); (repeat ((first | refine qT ?_ | refine qF ?_ | refine qO ?_ | (with_reducible intro z hz); (first | (replace hz := hz (by omega); subst hz) | subst hz)); (try (conv => whnf))))
       refine Idx.mk k (uv x) _ rfl (by simp [hx]) (by rw [hux]; try rfl) ?_
       (try (conv => whnf)); (repeat ((first | refine qT ?_ | refine qF ?_ | refine qO ?_ | (with_reducible intro z hz); (first | (replace hz := hz (by omega); subst hz) | subst hz)); (try (conv => whnf))))
       refine Imms.mk (sv (labL u.words)) rfl ?_
       (try (conv => whnf)); (repeat ((first | refine qT ?_ | refine qF ?_ | refine qO ?_ | (with_reducible intro z hz); (first | (replace hz := hz (by omega); subst hz) | subst hz)); (try (conv => whnf))))
       refine CallB.mk ([.imm (.int .i64 z)]) ([.row 9 1 1 (sv (labL u.words))]) (hB _ _ _ _ _ (hpc)) ?_
       (try (conv => whnf)); (repeat ((first | refine qT ?_ | refine qF ?_ | refine qO ?_ | (with_reducible intro z hz); (first | (replace hz := hz (by omega); subst hz) | subst hz)); (try (conv => whnf))))
       exact ⟨k + 1, by omega, by dsimp only; omega, ((WeakA.row 1 ((((F ++ lostL (callN u) 0 (u.kids.take (k + 1))).map fdv).map .imm)) rfl (by rw [hsn]; simp [fdv, fdl]))).trans ((WeakA.renew 1 1 rfl (by first | omega | (intro _; rw [hk0 _ _ rfl]; exact Nat.le_of_ble_eq_true rfl)) (by repeat (first | exact trivial | refine And.intro (rgL_imms _ _ _ _) ?_ | refine And.intro rfl ?_))).trans (qSL 3 rfl rfl))⟩
     · have hz := hpi.2 hin
       rw [hin] at hli
       by_cases hyk : y = (k : Int)
       · rw [if_neg fun hc => hc.2 (hli.2 ⟨rfl, hnh.1 hyk⟩), List.append_nil] at hsn
         (try (conv => whnf)); (repeat ((first | refine qT ?_ | refine qF ?_ | refine qO ?_ | (with_reducible intro z hz); (first | (replace hz := hz (by omega); subst hz) | subst hz)); (try (conv => whnf))))
         refine Idx.mk k (uv x) _ rfl (by simp [hx]) (by rw [hux]; try rfl) ?_
         (try (conv => whnf)); (repeat ((first | refine qT ?_ | refine qF ?_ | refine qO ?_ | (with_reducible intro z hz); (first | (replace hz := hz (by omega); subst hz) | subst hz)); (try (conv => whnf))))
         refine Imms.mk (sv (labL u.words)) rfl ?_
         (try (conv => whnf)); (repeat ((first | refine qT ?_ | refine qF ?_ | refine qO ?_ | (with_reducible intro z hz); (first | (replace hz := hz (by omega); subst hz) | subst hz)); (try (conv => whnf))))
         refine CallB.mk ([.imm (.int .i64 z)]) ([.row 9 1 1 (sv (labL u.words))]) (hB _ _ _ _ _ (hpc)) ?_
         (try (conv => whnf)); (repeat ((first | refine qT ?_ | refine qF ?_ | refine qO ?_ | (with_reducible intro z hz); (first | (replace hz := hz (by omega); subst hz) | subst hz) | (refine CallV.mk _ (hC _ _ _ (PCw.of hnt)) (fun js hjs => ?_); subst hjs)); (try (conv => whnf))))
         exact ⟨k + 1, by omega, by dsimp only; omega, ((WeakA.row 1 ((((F ++ lostL (callN u) 0 (u.kids.take (k + 1))).map fdv).map .imm)) rfl (by rw [hsn]))).trans (qSL 3 rfl rfl)⟩
       · rw [if_pos ⟨h7, fun hc => hyk (hnh.2 (hli.1 hc).2)⟩] at hsn
         (try (conv => whnf)); (repeat ((first | refine qT ?_ | refine qF ?_ | refine qO ?_ | (with_reducible intro z hz); (first | (replace hz := hz (by omega); subst hz) | subst hz)); (try (conv => whnf))))
         refine Idx.mk k (uv x) _ rfl (by simp [hx]) (by rw [hux]; try rfl) ?_
         (try (conv => whnf)); (repeat ((first | refine qT ?_ | refine qF ?_ | refine qO ?_ | (with_reducible intro z hz); (first | (replace hz := hz (by omega); subst hz) | subst hz)); (try (conv => whnf))))
         refine Imms.mk (sv (labL u.words)) rfl ?_
         (try (conv => whnf)); (repeat ((first | refine qT ?_ | refine qF ?_ | refine qO ?_ | (with_reducible intro z hz); (first | (replace hz := hz (by omega); subst hz) | subst hz)); (try (conv => whnf))))
         refine CallB.mk ([.imm (.int .i64 z)]) ([.row 9 1 1 (sv (labL u.words))]) (hB _ _ _ _ _ (hpc)) ?_
         (try (conv => whnf)); (repeat ((first | refine qT ?_ | refine qF ?_ | refine qO ?_ | (with_reducible intro z hz); (first | (replace hz := hz (by omega); subst hz) | subst hz) | (refine CallV.mk _ (hC _ _ _ (PCw.of hnt)) (fun js hjs => ?_); subst hjs)); (try (conv => whnf))))
         exact ⟨k + 1, by omega, by dsimp only; omega, ((WeakA.row 1 ((((F ++ lostL (callN u) 0 (u.kids.take (k + 1))).map fdv).map .imm)) rfl (by rw [hsn]; simp [fdv, fdl]))).trans ((WeakA.renew 1 1 rfl (by first | omega | (intro _; rw [hk0 _ _ rfl]; exact Nat.le_of_ble_eq_true rfl)) (by repeat (first | exact trivial | refine And.intro (rgL_imms _ _ _ _) ?_ | refine And.intro rfl ?_))).trans (qSL 3 rfl rfl))⟩
   | inr hge =>
     obtain rfl : k = u.kids.length := by omega
     rw [List.take_length, ← hlo, ← hpe]
     generalize perC u = F2 at hpl hall
     (try (conv => whnf)); (repeat ((first | refine qT ?_ | refine qF ?_ | refine qO ?_ | (with_reducible intro z hz); (first | (replace hz := hz (by omega); subst hz) | subst hz)); (try (conv => whnf))))
     refine hLP _ _ _ Nat (fun k => ⟨[(1, .ptr 0 1 0), (3, .row 1 1), (10, .imm (.int .i64 (k : Nat)))], [.box 1 [.imm (.int .i64 u.id.x), .imm (.int .i64 u.id.y), .imm (.int .i64 u.id.z), .imm (.int .i64 u.kind), .imm (.str u.label), .imm (.sl 4 (u.head.map wdv)), .imm (.sl 4 (u.words.map wdv)), .imm (.sl 8 (u.kids.map uv))], .row 66 6 1 (((F2 ++ fdsL (Ut.alls (u.kids.take k))).map fdv).map .imm)]⟩) (fun k => k ≤ u.kids.length) (fun k => u.kids.length - k) 0 (Nat.zero_le _) (((WeakA.row 1 ((((F2 ++ fdsL (Ut.alls (u.kids.take 0))).map fdv).map .imm)) rfl (by simp [Ut.alls, fdsL]))).trans (qSL 2 rfl rfl)) ?_
     intro k hk
     have hho := Nat.lt_or_ge k u.kids.length
     cases hho with
     | inl hlt =>
       refine (?_ : ∀ Q : Exit → AS → Prop, vcS _ _ _ _ _ _ _ (loopQA _ _ _ _ _ _ Q)) _; intro Q
       obtain ⟨x, hx⟩ : ∃ x, u.kids[k]? = some x := ⟨u.kids[k], List.getElem?_eq_getElem hlt⟩
       have hux := uv_eq x
       have h1 := kid_lt' hx
       have hI := (ih x (by omega) (by omega) fun y hy => hok y (kid_all (List.mem_of_getElem? hx) hy)).pc
       have htk := fdsL_take hx
       have hfk := fds_kids u k hok
       have hfk1 := fds_kids u (k + 1) hok
       rw [htk, List.length_append] at hfk1
       rw [hux] at hI
       generalize fdsL x.all = G at hI htk hfk1
       have hGl : (G.map fdv).length = G.length := List.length_map _
       have hOw : (((F2 ++ fdsL (Ut.alls (u.kids.take k))).map fdv).map PV.imm).length + (G.map fdv).length ≤ most := by
         rw [List.length_map, List.length_map, List.length_append, hGl]
         unfold most
         omega
       (try (conv => whnf)); (repeat ((first | refine qT ?_ | refine qF ?_ | refine qO ?_ | (with_reducible intro z hz); (first | (replace hz := hz (by omega); subst hz) | subst hz)); (try (conv => whnf))))
       refine Idx.mk k (uv x) _ rfl (by simp [hx]) (by rw [hux]; try rfl) ?_
       (try (conv => whnf)); (repeat ((first | refine qT ?_ | refine qF ?_ | refine qO ?_ | (with_reducible intro z hz); (first | (replace hz := hz (by omega); subst hz) | subst hz) | (refine CallV.mk _ (hC _ _ _ (PCw.of hI)) (fun js hjs => ?_); subst hjs)); (try (conv => whnf))))
       exact ⟨k + 1, by omega, by dsimp only; omega, ((WeakA.row 1 ((((F2 ++ fdsL (Ut.alls (u.kids.take (k + 1)))).map fdv).map .imm)) rfl (by rw [htk]; simp [List.map_append]))).trans ((WeakA.renew 1 1 rfl (by first | omega | (intro _; rw [hk0 _ _ rfl]; exact Nat.le_of_ble_eq_true rfl)) (by repeat (first | exact trivial | refine And.intro (rgL_imms _ _ _ _) ?_ | refine And.intro rfl ?_))).trans (qSL 2 rfl rfl))⟩
     | inr hge =>
       obtain rfl : k = u.kids.length := by omega
       rw [List.take_length, ← hall]
       (try (conv => whnf)); (repeat ((first | refine qT ?_ | refine qF ?_ | refine qO ?_ | (with_reducible intro z hz); (first | (replace hz := hz (by omega); subst hz) | subst hz)); (try (conv => whnf))))
       exact hfin _ _ _ _ (WeakA.refl _) rfl
end Go.Proofs.YtkjgmnmngbfhhaaDoor.Pn
