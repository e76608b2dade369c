/-
  wordseq's InsertAfter and Replace.
-/
import Derived.Test.YtcgdanbmgeoneaaWWs
namespace Go.Proofs.Ytcgdanbmgeoneaa.Pw
open Go Go.Pv Go.RowKit Go.Proofs.Ytcgdanbmgeoneaa.Pu Go.Proofs.Ytcgdanbmgeoneaa.Pb
set_option linter.unusedSimpArgs false
open Lab Lcs Go.Proofs.Ytcgdanbmgeoneaa
set_option maxRecDepth 10000
set_option maxHeartbeats 16000000
theorem ins1_pcb (xs p nw : List Str) (hx : xs.length ≤ 100000000) (hp : p.length ≤ 1000000) (hn : nw.length ≤ 1000000) : PCB Try.prog env0 58 [.row 2 1, .ptr 0 1 0, .ptr 1 1 0] [.box 1 [.imm (.sl 1 (p.map IV.str))], .box 1 [.imm (.sl 1 (nw.map IV.str))], .row 9 1 1 ((xs.map IV.str).map .imm)] [.row 2 2] [.box 1 [.imm (.sl 1 (p.map IV.str))], .box 1 [.imm (.sl 1 (nw.map IV.str))], .row 9 1 2 (((xs ++ (p ++ nw)).map IV.str).map .imm)] := by
 have h1 : ((xs.map IV.str).map PV.imm).length = xs.length := by rw [List.length_map, List.length_map]
 have h2 : (nw.map IV.str).length = nw.length := List.length_map _
 have h3 : (p.map IV.str).length = p.length := List.length_map _
 have hO2 : ((xs.map IV.str).map PV.imm ++ (p.map IV.str).map PV.imm).length + (nw.map IV.str).length ≤ most := by rw [List.length_append, h1, List.length_map, h3, h2]; unfold most; omega
 refine PCB.of_va (T := tbu) eqs_ok tbu_ok rfl mixed Try.func58 rfl rfl rfl (Nat.le_of_ble_eq_true rfl) rfl ?_; intro Γ C WK LP fin h0 hk0 hW hC hB hR hLP hfin
 (try (conv => whnf)); (repeat ((first | refine qT ?_ | refine qF ?_ | refine qO ?_ | (with_reducible intro z hz); (first | (replace hz := hz (by omega); subst hz) | subst hz)); (try (conv => whnf))))
 exact hfin _ (((WeakA.row 2 (((xs ++ (p ++ nw)).map IV.str).map .imm) rfl (by simp))).trans ((WeakA.renew 2 2 rfl (by first | omega | (intro _; rw [hk0 _ _ rfl]; exact Nat.le_of_ble_eq_true rfl)) (by repeat (first | exact trivial | refine And.intro (rgL_imms _ _ _ _) ?_ | refine And.intro rfl ?_))).trans (qSL 3 rfl rfl)))
theorem rwi_pcb (l p nw : List Str) (nth : Int) (hl : l.length ≤ 1000) (hp : p.length ≤ 1000) (hp0 : 0 < p.length) (hn : nw.length ≤ 1000) (h00 : 0 ≤ nth) :
   PCB Try.prog env0 55 [.imm (.sl 1 (l.map IV.str)), .imm (.sl 1 (p.map IV.str)), .imm (.int .i64 nth), .clo 58 [.ptr 0 1 0, .ptr 1 1 0]] [.box 1 [.imm (.sl 1 (p.map IV.str))], .box 1 [.imm (.sl 1 (nw.map IV.str))], .dead 1] [.row 2 2, .imm (.int .i64 ((chs (occs l p) nth).length : Nat))] [.box 1 [.imm (.sl 1 (p.map IV.str))], .box 1 [.imm (.sl 1 (nw.map IV.str))], .row 9 1 2 (((rwS l p.length (p ++ nw) 0 (chs (occs l p) nth)).map IV.str).map .imm)] := by
 have h1 : (l.map IV.str).length = l.length := List.length_map _
 have h2 : (p.map IV.str).length = p.length := List.length_map _
 have hFA := findAll4_pc l p (by omega) (by omega)
 have hok : OkAt l.length p.length 0 (chs (occs l p) nth) := ok_chs (by rw [occs_F hp0]; exact ok_occ hp0 _ 0 (Nat.le_refl _) (Nat.le_refl _) (Nat.zero_le _) rfl)
 have hol : (occs l p).length ≤ l.length := by
   rw [occs_F hp0]
   have := occF_len l p hp0 (l.length + 1) 0 (by omega)
   omega
 generalize occs l p = O at hFA hok hol ⊢
 have hz : (zs O).length = O.length := zs_len O
 obtain ⟨C0, hC0⟩ : ∃ C0, chs O nth = C0 := ⟨_, rfl⟩
 rw [hC0] at hok ⊢
 have hr0 : rest O nth 0 = C0 := by rw [← hC0]; exact rest_0 h00
 have hcl : C0.length ≤ O.length := by rw [← hC0]; exact chs_len _ _
 obtain ⟨X, hX⟩ : ∃ X, rwS l p.length (p ++ nw) 0 C0 = X := ⟨_, rfl⟩
 rw [hX]
 have hXl : X.length ≤ 10000000 := by
   rw [← hX]
   have := rwS_len (l := l) (P := p.length) (A := p ++ nw) C0 0
   have hA : (p ++ nw).length ≤ 2000 := by first | omega | (rw [List.length_append]; omega)
   have h3 : C0.length * (p ++ nw).length ≤ 1000 * 2000 := Nat.mul_le_mul (by omega) hA
   have h4 : C0.length * l.length ≤ 1000 * 1000 := Nat.mul_le_mul (by omega) (by omega)
   rw [Nat.mul_add] at this
   omega
 refine PCB.of_va (T := tbu) eqs_ok tbu_ok rfl mixed Try.func55 rfl rfl rfl (Nat.le_of_ble_eq_true rfl) rfl ?_; intro Γ C WK LP fin h0 hk0 hW hC hB hR hLP hfin
 (try (conv => whnf)); (repeat ((first | refine qT ?_ | refine qF ?_ | refine qO ?_ | (with_reducible intro z hz); (first | (replace hz := hz (by omega); subst hz) | subst hz) | (refine CallV.mk _ (hC _ _ _ (PCw.of hFA)) (fun js hjs => ?_); subst hjs)); (try (conv => whnf))))
 refine hLP _ _ _ (Nat × Nat × List Str × Nat) (fun q => ⟨[(0, .imm (.sl 1 (l.map IV.str))), (1, .imm (.sl 1 (p.map IV.str))), (2, .imm (.int .i64 nth)), (3, .clo 58 [.ptr 0 1 0, .ptr 1 1 0]), (10, .row 4 1), (11, .imm (.int .i64 (q.2.2.2 : Nat))), (12, .imm (.int .i64 (q.2.1 : Nat))), (17, .imm (.sl 1 (zs O))), (18, .imm (.int .i64 (O.length : Nat))), (19, .imm (.int .i64 (q.1 : Nat)))], [.box 1 [.imm (.sl 1 (p.map IV.str))], .box 1 [.imm (.sl 1 (nw.map IV.str))], .dead 1, .dead 0, .row 9 1 1 ((q.2.2.1.map IV.str).map .imm)]⟩) (fun q => q.1 ≤ O.length ∧ OkAt l.length p.length q.2.1 (rest O nth q.1) ∧ X = q.2.2.1 ++ rwS l p.length (p ++ nw) q.2.1 (rest O nth q.1) ∧ q.2.2.2 + (rest O nth q.1).length = C0.length) (fun q => O.length - q.1) (0, 0, [], 0) ⟨Nat.zero_le _, by rw [hr0]; exact hok, by rw [hr0, hX]; rfl, by dsimp only; rw [hr0]; exact Nat.zero_add _⟩ ((WeakA.nilSlot 10 9 1 (Nat.le_of_ble_eq_true rfl) rfl).trans (((WeakA.row 4 ((([] : List Str).map IV.str).map .imm) rfl (by rfl))).trans (qSL 5 rfl rfl))) ?_
 rintro ⟨i, d, F, c⟩ ⟨hi, hki, hinv, hc⟩
 dsimp only at hi hki hinv hc ⊢
 have hFl : F.length + (rwS l p.length (p ++ nw) d (rest O nth i)).length = X.length := by rw [hinv, List.length_append]
 have hFz : ((F.map IV.str).map PV.imm).length = F.length := by rw [List.length_map, List.length_map]
 have hho := Nat.lt_or_ge i O.length
 cases hho with
 | inl hlt =>
   obtain ⟨t, ht⟩ : ∃ t, O[i]? = some t := ⟨O[i], List.getElem?_eq_getElem hlt⟩
   by_cases hs : nth = 0 ∨ nth = (i : Int) + 1
   · have hrr := rest_hit h00 ht hs
     rw [hrr] at hki hinv hc hFl
     obtain ⟨g1, g2, g3⟩ := hki
     obtain ⟨s, hsg⟩ : ∃ s, (l.drop d).take (t - d) = s := ⟨_, rfl⟩
     simp only [rwS] at hinv hFl
     rw [hsg] at hinv hFl
     have hsl : s.length = t - d := by rw [← hsg, List.length_take, List.length_drop]; omega
     simp only [List.length_append, List.length_cons] at hFl hc
     have hsub : List.take (((t : Nat) : Int).toNat - ((d : Nat) : Int).toNat) (List.drop ((d : Nat) : Int).toNat (l.map IV.str)) = s.map IV.str := by
       rw [Int.toNat_natCast, Int.toNat_natCast, ← hsg, List.map_take, List.map_drop]
     have hsz : (List.take (((t : Nat) : Int).toNat - ((d : Nat) : Int).toNat) (List.drop ((d : Nat) : Int).toNat (l.map IV.str))).length = t - d := by rw [hsub, List.length_map, hsl]
     have hO1 : ((F.map IV.str).map PV.imm).length + (List.take (((t : Nat) : Int).toNat - ((d : Nat) : Int).toNat) (List.drop ((d : Nat) : Int).toNat (l.map IV.str))).length ≤ most := by unfold most; omega
     have hes : (F.map IV.str).map PV.imm ++ (List.take (((t : Nat) : Int).toNat - ((d : Nat) : Int).toNat) (List.drop ((d : Nat) : Int).toNat (l.map IV.str))).map PV.imm = ((F ++ s).map IV.str).map PV.imm := by rw [hsub]; simp
     have hR := ins1_pcb (F ++ s) p nw (by rw [List.length_append]; omega) (by omega) (by omega)
     rcases hs with hs | hs
     · subst hs
       (try (conv => whnf)); (repeat ((first | refine qT ?_ | refine qF ?_ | refine qO ?_ | (with_reducible intro z hz); (first | (replace hz := hz (by omega); subst hz) | subst hz)); (try (conv => whnf))))
       refine Idx.mk i (.int .i64 ((t : Nat) : Int)) _ rfl (by simp [zs, zi, ht]) rfl ?_
       (try (conv => whnf)); (repeat ((first | refine qT ?_ | refine qF ?_ | refine qO ?_ | (with_reducible intro z hz); (first | (replace hz := hz (by omega); subst hz) | subst hz)); (try (conv => whnf))))
       refine Imms.mk ((F ++ s).map IV.str) hes ?_
       (try (conv => whnf)); (repeat ((first | refine qT ?_ | refine qF ?_ | refine qO ?_ | (with_reducible intro z hz); (first | (replace hz := hz (by omega); subst hz) | subst hz)); (try (conv => whnf))))
       refine CallB.mk ([.row 2 2]) ([.box 1 [.imm (.sl 1 (p.map IV.str))], .box 1 [.imm (.sl 1 (nw.map IV.str))], .row 9 1 2 ((F ++ s ++ (p ++ nw)).map IV.str)]) (hB _ _ _ _ _ (hR)) ?_
       (try (conv => whnf)); (repeat ((first | refine qT ?_ | refine qF ?_ | refine qO ?_ | (with_reducible intro z hz); (first | (replace hz := hz (by omega); subst hz) | subst hz)); (try (conv => whnf))))
       exact ⟨(i + 1, t + p.length, F ++ s ++ (p ++ nw), c + 1), ⟨by dsimp only; omega, g3, by rw [hinv]; simp, by dsimp only; omega⟩, by dsimp only; omega, (WeakA.renew 4 1 rfl (fun hh => absurd hh (by rw [h0]; exact Nat.not_lt_of_le (Nat.le_of_ble_eq_true rfl))) (by repeat (first | exact trivial | refine And.intro (rgL_imms _ _ _ _) ?_ | refine And.intro rfl ?_))).trans (qSL 5 rfl rfl)⟩
     · (try (conv => whnf)); (repeat ((first | refine qT ?_ | refine qF ?_ | refine qO ?_ | (with_reducible intro z hz); (first | (replace hz := hz (by omega); subst hz) | subst hz)); (try (conv => whnf))))
       refine Idx.mk i (.int .i64 ((t : Nat) : Int)) _ rfl (by simp [zs, zi, ht]) rfl ?_
       (try (conv => whnf)); (repeat ((first | refine qT ?_ | refine qF ?_ | refine qO ?_ | (with_reducible intro z hz); (first | (replace hz := hz (by omega); subst hz) | subst hz)); (try (conv => whnf))))
       refine Imms.mk ((F ++ s).map IV.str) hes ?_
       (try (conv => whnf)); (repeat ((first | refine qT ?_ | refine qF ?_ | refine qO ?_ | (with_reducible intro z hz); (first | (replace hz := hz (by omega); subst hz) | subst hz)); (try (conv => whnf))))
       refine CallB.mk ([.row 2 2]) ([.box 1 [.imm (.sl 1 (p.map IV.str))], .box 1 [.imm (.sl 1 (nw.map IV.str))], .row 9 1 2 ((F ++ s ++ (p ++ nw)).map IV.str)]) (hB _ _ _ _ _ (hR)) ?_
       (try (conv => whnf)); (repeat ((first | refine qT ?_ | refine qF ?_ | refine qO ?_ | (with_reducible intro z hz); (first | (replace hz := hz (by omega); subst hz) | subst hz)); (try (conv => whnf))))
       exact ⟨(i + 1, t + p.length, F ++ s ++ (p ++ nw), c + 1), ⟨by dsimp only; omega, g3, by rw [hinv]; simp, by dsimp only; omega⟩, by dsimp only; omega, (WeakA.renew 4 1 rfl (fun hh => absurd hh (by rw [h0]; exact Nat.not_lt_of_le (Nat.le_of_ble_eq_true rfl))) (by repeat (first | exact trivial | refine And.intro (rgL_imms _ _ _ _) ?_ | refine And.intro rfl ?_))).trans (qSL 5 rfl rfl)⟩
   · have hrr := rest_miss h00 ht hs
     rw [← hrr] at hki hinv hc
     (try (conv => whnf)); (repeat ((first | refine qT ?_ | refine qF ?_ | refine qO ?_ | (with_reducible intro z hz); (first | (replace hz := hz (by omega); subst hz) | subst hz)); (try (conv => whnf))))
     refine Idx.mk i (.int .i64 ((t : Nat) : Int)) _ rfl (by simp [zs, zi, ht]) rfl ?_
     (try (conv => whnf)); (repeat ((first | refine qT ?_ | refine qF ?_ | refine qO ?_ | (with_reducible intro z hz); (first | (replace hz := hz (by omega); subst hz) | subst hz)); (try (conv => whnf))))
     exact ⟨(i + 1, d, F, c), ⟨by dsimp only; omega, hki, hinv, hc⟩, by dsimp only; omega, (qSL 5 rfl rfl)⟩
 | inr hge =>
   obtain rfl : i = O.length := by omega
   rw [rest_end h00] at hki hinv hc hFl
   have hdl : d ≤ l.length := hki
   simp only [rwS] at hinv hFl
   have hsub : List.drop ((d : Nat) : Int).toNat (l.map IV.str) = (l.drop d).map IV.str := by rw [Int.toNat_natCast, List.map_drop]
   have hsl : (List.drop ((d : Nat) : Int).toNat (l.map IV.str)).length = l.length - d := by rw [hsub, List.length_map, List.length_drop]
   rw [List.length_drop] at hFl
   have hO1 : ((F.map IV.str).map PV.imm).length + (List.drop ((d : Nat) : Int).toNat (l.map IV.str)).length ≤ most := by unfold most; omega
   have hcc : c = C0.length := by simpa using hc
   subst hcc
   (try (conv => whnf)); (repeat ((first | refine qT ?_ | refine qF ?_ | refine qO ?_ | (with_reducible intro z hz); (first | (replace hz := hz (by omega); subst hz) | subst hz)); (try (conv => whnf))))
   exact hfin _ (WeakA.trans ((WeakA.row 4 ((X.map IV.str).map .imm) rfl (by rw [hsub, hinv]; simp))) (WeakA.trans (WeakA.adopt 2 4 2 (by decide) rfl rfl (by rw [h0]; exact Nat.le_of_ble_eq_true rfl) (by first | omega | (intro _; rw [hk0 _ _ rfl]; exact Nat.le_of_ble_eq_true rfl)) (by repeat (first | exact trivial | refine And.intro (mvL_imms _ _ _ _ _) ?_ | refine And.intro rfl ?_))) (qSL 3 rfl rfl)))
theorem sreplace_pc (l p nw : List Str) (nth : Int) (hl : l.length ≤ 1000) (hp : p.length ≤ 1000) (hp0 : 0 < p.length) (hn : nw.length ≤ 1000) (h00 : 0 ≤ nth) : PC Try.prog env0 30 [.sl 1 (l.map IV.str), .sl 1 (p.map IV.str), .sl 1 (nw.map IV.str), .int .i64 nth] [.sl 1 ((rwS l p.length nw 0 (chs (occs l p) nth)).map IV.str), .int .i64 ((chs (occs l p) nth).length : Nat)] := by
 have h2 := rwr_pcb l p nw nth hl hp hp0 hn h00
 generalize chs (occs l p) nth = O at h2 ⊢
 generalize rwS l p.length nw 0 O = X at h2 ⊢
 refine PC.of_va (T := tbu) eqs_ok tbu_ok rfl mixed Try.func30 rfl rfl (Nat.le_of_ble_eq_true rfl) ?_; intro Γ C WK LP fin h0 hW hC hB hR hLP hfin
 (try (conv => whnf)); (repeat ((first | refine qT ?_ | refine qF ?_ | refine qO ?_ | (with_reducible intro z hz); (first | (replace hz := hz (by omega); subst hz) | subst hz)); (try (conv => whnf))))
 refine CallB.mk ([.row 1 2, .imm (.int .i64 (O.length : Nat))]) ([.box 1 [.imm (.sl 1 (nw.map IV.str))], .row 9 1 2 (X.map IV.str)]) (hB _ _ _ _ _ (h2)) ?_
 (try (conv => whnf)); (repeat ((first | refine qT ?_ | refine qF ?_ | refine qO ?_ | (with_reducible intro z hz); (first | (replace hz := hz (by omega); subst hz) | subst hz)); (try (conv => whnf))))
 refine Imms.mk (X.map IV.str) rfl ?_
 (try (conv => whnf)); (repeat ((first | refine qT ?_ | refine qF ?_ | refine qO ?_ | (with_reducible intro z hz); (first | (replace hz := hz (by omega); subst hz) | subst hz)); (try (conv => whnf))))
 exact hfin _ (ILes.refl _)
theorem sinsert_pc (l p nw : List Str) (nth : Int) (hl : l.length ≤ 1000) (hp : p.length ≤ 1000) (hp0 : 0 < p.length) (hn : nw.length ≤ 1000) (h00 : 0 ≤ nth) : PC Try.prog env0 31 [.sl 1 (l.map IV.str), .sl 1 (p.map IV.str), .sl 1 (nw.map IV.str), .int .i64 nth] [.sl 1 ((rwS l p.length (p ++ nw) 0 (chs (occs l p) nth)).map IV.str), .int .i64 ((chs (occs l p) nth).length : Nat)] := by
 have h2 := rwi_pcb l p nw nth hl hp hp0 hn h00
 have h3 : (p.map IV.str).length = p.length := List.length_map _
 generalize chs (occs l p) nth = O at h2 ⊢
 generalize rwS l p.length (p ++ nw) 0 O = X at h2 ⊢
 refine PC.of_va (T := tbu) eqs_ok tbu_ok rfl mixed Try.func31 rfl rfl (Nat.le_of_ble_eq_true rfl) ?_; intro Γ C WK LP fin h0 hW hC hB hR hLP hfin
 (try (conv => whnf)); (repeat ((first | refine qT ?_ | refine qF ?_ | refine qO ?_ | (with_reducible intro z hz); (first | (replace hz := hz (by omega); subst hz) | subst hz)); (try (conv => whnf))))
 refine CallB.mk ([.row 2 2, .imm (.int .i64 (O.length : Nat))]) ([.box 1 [.imm (.sl 1 (p.map IV.str))], .box 1 [.imm (.sl 1 (nw.map IV.str))], .row 9 1 2 (X.map IV.str)]) (hB _ _ _ _ _ (h2)) ?_
 (try (conv => whnf)); (repeat ((first | refine qT ?_ | refine qF ?_ | refine qO ?_ | (with_reducible intro z hz); (first | (replace hz := hz (by omega); subst hz) | subst hz)); (try (conv => whnf))))
 refine Imms.mk (X.map IV.str) rfl ?_
 (try (conv => whnf)); (repeat ((first | refine qT ?_ | refine qF ?_ | refine qO ?_ | (with_reducible intro z hz); (first | (replace hz := hz (by omega); subst hz) | subst hz)); (try (conv => whnf))))
 exact hfin _ (ILes.refl _)
end Go.Proofs.Ytcgdanbmgeoneaa.Pw
