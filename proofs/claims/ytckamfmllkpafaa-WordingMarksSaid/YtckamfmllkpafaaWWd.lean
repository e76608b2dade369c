/-
  splice.
-/
import Derived.Test.YtckamfmllkpafaaWWc
namespace Go.Proofs.Ytckamfmllkpafaa.Pw
open Go Go.Pv Go.RowKit Go.Proofs.Ytckamfmllkpafaa.Pu Go.Proofs.Ytckamfmllkpafaa.Pb
set_option linter.unusedSimpArgs false
open Lab Lcs Go.Proofs.Ytckamfmllkpafaa
set_option maxRecDepth 10000
set_option maxHeartbeats 32000000
def part (F : List Wd) (N : Nat) : List Wd := F ++ List.replicate (N - F.length) zW
theorem part_fill {F xs : List Wd} {N : Nat} (h : F.length + xs.length ≤ N) : lay (part F N) xs F.length = part (F ++ xs) N := by
 unfold part
 rw [lay_fill (by rw [List.length_replicate]; omega), List.drop_replicate, List.length_append, Nat.sub_sub]
theorem subBoxN {Γ : Ctx} {n : Nat} {A : List (Nat × PV)} {B : List Blk} (b i r m : Nat) {g g' sz : Nat} {e : TypeId} {cs es : List PV} (hm : es.length = m) (hb : B[b]? = some (.box g cs)) (hc : cs[i]? = some (.row r g')) (hr : B[r]? = some (.row e sz g' es)) : WeakA Γ n ⟨A, B⟩ ⟨A, B.set b (.box g (cs.set i (.sub r g' sz 0 m)))⟩ := hm ▸ WeakA.subBox b i r hb hc hr
theorem splice_pc (w : List Wd) (l : List Nat) (dr : Nat) (nw : List Str) (a i : Int) (hok : OkAt w.length dr 0 l) (hw : w.length ≤ 100000) (hl : l.length ≤ 100000) (hn : nw.length ≤ 100000) (hdr : dr ≤ 100000) :
   PC Try.prog env0 39 [.sl 4 (w.map wdv), .sl 1 (zs l), .int .i64 (dr : Nat), .sl 1 (nw.map IV.str), .int .i64 a, .int .i64 i] (if 256 < (spl w dr nw a i 0 0 l).length then [.sl 4 [], .int .i64 6] else [.sl 4 ((spl w dr nw a i 0 0 l).map wdv), .int .i64 0]) := by
 have h1 : (w.map wdv).length = w.length := List.length_map _
 have h2 : (zs l).length = l.length := zs_len l
 have h3 : (nw.map IV.str).length = nw.length := List.length_map _
 have hlen := spl_len (nw := nw) (a := a) (i := i) (k := 0) hok
 have hT : ∃ T, spl w dr nw a i 0 0 l = T := ⟨_, rfl⟩
 obtain ⟨T, hT⟩ := hT
 rw [hT] at hlen ⊢
 rw [← h1, ← h2, ← h3] at hlen
 have hmb : -10000000000 ≤ (((zs l).length : Nat) : Int) * ((((nw.map IV.str).length : Nat) : Int) - ((dr : Nat) : Int)) ∧ (((zs l).length : Nat) : Int) * ((((nw.map IV.str).length : Nat) : Int) - ((dr : Nat) : Int)) ≤ 10000000000 := by
   have e1 : (0 : Int) ≤ (((zs l).length : Nat) : Int) ∧ (((zs l).length : Nat) : Int) ≤ 100000 := by omega
   have e2 : -100000 ≤ (((nw.map IV.str).length : Nat) : Int) - ((dr : Nat) : Int) ∧ (((nw.map IV.str).length : Nat) : Int) - ((dr : Nat) : Int) ≤ 100000 := by omega
   generalize (((zs l).length : Nat) : Int) = x at e1 ⊢
   generalize (((nw.map IV.str).length : Nat) : Int) - ((dr : Nat) : Int) = y at e2 ⊢
   constructor
   · have := Int.mul_le_mul_of_nonneg_left e2.1 e1.1
     omega
   · have := Int.mul_le_mul_of_nonneg_left e2.2 e1.1
     omega
 have hS : (((w.map wdv).length : Nat) : Int) + (((zs l).length : Nat) : Int) * ((((nw.map IV.str).length : Nat) : Int) - ((dr : Nat) : Int)) = ((T.length : Nat) : Int) := by rw [hlen]; omega
 by_cases hbig : 256 < T.length
 · rw [if_pos hbig]
   refine PC.of_va (T := tb0) eqs_ok tb_ok rfl mixed Try.func39 rfl rfl (Nat.le_of_ble_eq_true rfl) ?_; intro Γ C WK LP fin h0 hW hC hB hR hLP hfin
   (try (conv => whnf)); (repeat ((first | refine qT ?_ | refine qF ?_ | refine qO ?_ | (with_reducible intro z hz); (first | (replace hz := hz (by omega); subst hz) | subst hz)); (try (conv => whnf))))
   exact hfin _ (.cons (.nil 4) (.refl _))
 rw [if_neg hbig]
 refine PC.of_va (T := tb0) eqs_ok tb_ok rfl mixed Try.func39 rfl rfl (Nat.le_of_ble_eq_true rfl) ?_; intro Γ C WK LP fin h0 hW hC hB hR hLP hfin
 (try (conv => whnf)); (repeat ((first | refine qT ?_ | refine qF ?_ | refine qO ?_ | (with_reducible intro z hz); (first | (replace hz := hz (by omega); subst hz) | subst hz)); (try (conv => whnf))))
 refine hLP _ _ _ (Nat × Nat × List Wd) (fun q => ⟨[(0, .imm (.sl 4 (w.map wdv))), (2, .imm (.int .i64 (dr : Nat))), (3, .imm (.sl 1 (nw.map IV.str))), (4, .imm (.int .i64 a)), (5, .imm (.int .i64 i)), (15, .row 0 1), (17, .clo 46 [.ptr 1 1 0]), (18, .imm (.int .i64 (q.2.1 : Nat))), (37, .imm (.sl 1 (zs l))), (38, .imm (.int .i64 (l.length : Nat))), (39, .imm (.int .i64 (q.1 : Nat)))], [.row 49 4 1 (((part q.2.2 T.length).map wdv).map .imm), .box 1 [.sub 0 1 4 q.2.2.length (T.length - q.2.2.length)]]⟩) (fun q => q.1 ≤ l.length ∧ OkAt w.length dr q.2.1 (l.drop q.1) ∧ T = q.2.2 ++ spl w dr nw a i q.1 q.2.1 (l.drop q.1)) (fun q => l.length - q.1) (0, 0, []) ⟨Nat.zero_le _, hok, by rw [List.drop_zero, hT]; rfl⟩ ?_ ?_
 · refine ((WeakA.row 0 (((part [] T.length).map wdv).map .imm) rfl (by rw [hS, Int.toNat_natCast]; unfold part; rw [List.nil_append, List.map_replicate, List.map_replicate]; rfl))).trans ((subBoxN 1 0 0 T.length (by simp [part]) rfl rfl rfl).trans ?_)
   exact (qSL 2 rfl rfl)
 · rintro ⟨k, d, F⟩ ⟨hk, hkok, hinv⟩
   dsimp only at hk hkok hinv ⊢
   have hFl : F.length + (spl w dr nw a i k d (l.drop k)).length = T.length := by rw [hinv, List.length_append]
   have hho := Nat.lt_or_ge k l.length
   cases hho with
   | inl hlt =>
     obtain ⟨t, hx⟩ : ∃ t, l[k]? = some t := ⟨l[k], List.getElem?_eq_getElem hlt⟩
     obtain ⟨g1, g2, g3⟩ := ok_next hx hkok
     have hnx := at_next (w := w) (dr := dr) (nw := nw) (a := a) (i := i) (d := d) hx
     rw [hnx] at hinv hFl
     have hkb : 0 ≤ ((k : Nat) : Int) * (((nw.map IV.str).length : Nat) : Int) ∧ ((k : Nat) : Int) * (((nw.map IV.str).length : Nat) : Int) ≤ 10000000000 := by
       rw [h3]
       have e1 : (0 : Int) ≤ ((k : Nat) : Int) ∧ ((k : Nat) : Int) ≤ 100000 := by omega
       have e2 : (0 : Int) ≤ ((nw.length : Nat) : Int) ∧ ((nw.length : Nat) : Int) ≤ 100000 := by omega
       generalize ((k : Nat) : Int) = x at e1 ⊢
       generalize ((nw.length : Nat) : Int) = y at e2 ⊢
       exact ⟨Int.mul_nonneg e1.1 e2.1, by
         have h1 := Int.mul_le_mul_of_nonneg_left e2.2 e1.1
         omega⟩
     have hM := mark_pc nw a i (((k : Nat) : Int) * (((nw.map IV.str).length : Nat) : Int)) (by omega) ⟨by omega, by omega⟩
     have hmk : mkW a i (((k : Nat) : Int) * (((nw.map IV.str).length : Nat) : Int)) nw = mkW a i (((k : Nat) : Int) * ((nw.length : Nat) : Int)) nw := by rw [h3]
     rw [hmk] at hM
     obtain ⟨m, hm⟩ : ∃ m, mkW a i (((k : Nat) : Int) * ((nw.length : Nat) : Int)) nw = m := ⟨_, rfl⟩
     rw [hm] at hM hinv hFl
     have hml : m.length = nw.length := by rw [← hm, mkW_len]
     have hmz : ((m.map wdv).map PV.imm).length = nw.length := by rw [List.length_map, List.length_map, hml]
     obtain ⟨c, hc⟩ : ∃ c, (w.drop d).take (t - d) = c := ⟨_, rfl⟩
     rw [hc] at hinv hFl
     have hcl : c.length = t - d := by rw [← hc, List.length_take, List.length_drop]; omega
     have hsub : List.take (((t : Nat) : Int).toNat - ((d : Nat) : Int).toNat) (List.drop ((d : Nat) : Int).toNat (w.map wdv)) = c.map wdv := by
       rw [Int.toNat_natCast, Int.toNat_natCast, ← hc, List.map_take, List.map_drop]
     have hsl : (List.take (((t : Nat) : Int).toNat - ((d : Nat) : Int).toNat) (List.drop ((d : Nat) : Int).toNat (w.map wdv))).length = t - d := by rw [hsub, List.length_map, hcl]
     have hcm : (c ++ m).length = c.length + m.length := List.length_append
     simp only [List.length_append] at hFl
     by_cases hn0 : nw.length = 0
     · have hm0 : m = [] := List.eq_nil_of_length_eq_zero (by omega)
       have hF := fill_pcb c (part F T.length) F.length (T.length - F.length) (by omega) (by omega)
       rw [part_fill (by omega), show F.length + c.length = (F ++ c).length from (List.length_append ..).symm, show T.length - F.length - c.length = T.length - (F ++ c).length by rw [List.length_append]; omega, ← hsub] at hF
       (try (conv => whnf)); (repeat ((first | refine qT ?_ | refine qF ?_ | refine qO ?_ | (with_reducible intro z hz); (first | (replace hz := hz (by omega); subst hz) | subst hz)); (try (conv => whnf))))
       refine Idx.mk k (.int .i64 ((t : Nat) : Int)) _ rfl (by simp [zs, zi, hx]) rfl ?_
       (try (conv => whnf)); (repeat ((first | refine qT ?_ | refine qF ?_ | refine qO ?_ | (with_reducible intro z hz); (first | (replace hz := hz (by omega); subst hz) | subst hz) | (refine CallV.mk _ (hC _ _ _ (PCw.of hM)) (fun js hjs => ?_); subst hjs)); (try (conv => whnf))))
       refine Imms.mk ((part F T.length).map wdv) rfl ?_
       (try (conv => whnf)); (repeat ((first | refine qT ?_ | refine qF ?_ | refine qO ?_ | (with_reducible intro z hz); (first | (replace hz := hz (by omega); subst hz) | subst hz)); (try (conv => whnf))))
       refine CallB.mk ([]) ([.box 1 [.sub 1 1 4 (F ++ c).length (T.length - (F ++ c).length)], .row 49 4 1 ((part (F ++ c) T.length).map wdv)]) (hB _ _ _ _ _ (hF)) ?_
       (try (conv => whnf)); (repeat ((first | refine qT ?_ | refine qF ?_ | refine qO ?_ | (with_reducible intro z hz); (first | (replace hz := hz (by omega); subst hz) | subst hz)); (try (conv => whnf))))
       exact ⟨(k + 1, t + dr, F ++ c), ⟨by dsimp only; omega, g3, by rw [hinv, hm0]; simp⟩, by dsimp only; omega, (qSL 2 rfl rfl)⟩
     · have hF := fill2_pcb (c ++ m) (part F T.length) F.length (T.length - F.length) (by omega) (by omega)
       rw [part_fill (by omega), show F.length + (c ++ m).length = (F ++ (c ++ m)).length from (List.length_append ..).symm, show T.length - F.length - (c ++ m).length = T.length - (F ++ (c ++ m)).length from (by have hh : (F ++ (c ++ m)).length = F.length + (c ++ m).length := List.length_append; omega)] at hF
       have hes : List.map PV.imm (List.take (((t : Nat) : Int).toNat - ((d : Nat) : Int).toNat) (List.drop ((d : Nat) : Int).toNat (w.map wdv))) ++ List.map PV.imm (m.map wdv) = ((c ++ m).map wdv).map PV.imm := by rw [hsub]; simp
       (try (conv => whnf)); (repeat ((first | refine qT ?_ | refine qF ?_ | refine qO ?_ | (with_reducible intro z hz); (first | (replace hz := hz (by omega); subst hz) | subst hz)); (try (conv => whnf))))
       refine Idx.mk k (.int .i64 ((t : Nat) : Int)) _ rfl (by simp [zs, zi, hx]) rfl ?_
       (try (conv => whnf)); (repeat ((first | refine qT ?_ | refine qF ?_ | refine qO ?_ | (with_reducible intro z hz); (first | (replace hz := hz (by omega); subst hz) | subst hz) | (refine CallV.mk _ (hC _ _ _ (PCw.of hM)) (fun js hjs => ?_); subst hjs)); (try (conv => whnf))))
       refine Imms.mk ((c ++ m).map wdv) hes ?_
       (try (conv => whnf)); (repeat ((first | refine qT ?_ | refine qF ?_ | refine qO ?_ | (with_reducible intro z hz); (first | (replace hz := hz (by omega); subst hz) | subst hz)); (try (conv => whnf))))
       refine Imms.mk ((part F T.length).map wdv) rfl ?_
       (try (conv => whnf)); (repeat ((first | refine qT ?_ | refine qF ?_ | refine qO ?_ | (with_reducible intro z hz); (first | (replace hz := hz (by omega); subst hz) | subst hz)); (try (conv => whnf))))
       refine CallB.mk ([]) ([.box 1 [.sub 2 1 4 (F ++ (c ++ m)).length (T.length - (F ++ (c ++ m)).length)], .row 49 4 1 ((c ++ m).map wdv), .row 49 4 1 ((part (F ++ (c ++ m)) T.length).map wdv)]) (hB _ _ _ _ _ (hF)) ?_
       (try (conv => whnf)); (repeat ((first | refine qT ?_ | refine qF ?_ | refine qO ?_ | (with_reducible intro z hz); (first | (replace hz := hz (by omega); subst hz) | subst hz)); (try (conv => whnf))))
       exact ⟨(k + 1, t + dr, F ++ (c ++ m)), ⟨by dsimp only; omega, g3, by rw [hinv]; simp⟩, by dsimp only; omega, (qSL 2 rfl rfl)⟩
   | inr hge =>
     obtain rfl : k = l.length := by omega
     rw [List.drop_length] at hinv hFl
     obtain ⟨c, hc⟩ : ∃ c, w.drop d = c := ⟨_, rfl⟩
     have hdw : d ≤ w.length := by rw [List.drop_length] at hkok; exact hkok
     simp only [spl] at hinv hFl
     rw [hc] at hinv hFl
     have hcl : c.length = w.length - d := by rw [← hc, List.length_drop]
     have hF := fill_pcb c (part F T.length) F.length (T.length - F.length) (by omega) (by omega)
     rw [part_fill (by omega), show F.length + c.length = (F ++ c).length from (List.length_append ..).symm, show T.length - F.length - c.length = T.length - (F ++ c).length by rw [List.length_append]; omega] at hF
     have hsub : List.drop ((d : Nat) : Int).toNat (w.map wdv) = c.map wdv := by rw [Int.toNat_natCast, ← hc, List.map_drop]
     rw [← hsub] at hF
     (try (conv => whnf)); (repeat ((first | refine qT ?_ | refine qF ?_ | refine qO ?_ | (with_reducible intro z hz); (first | (replace hz := hz (by omega); subst hz) | subst hz)); (try (conv => whnf))))
     refine Imms.mk ((part F T.length).map wdv) rfl ?_
     (try (conv => whnf)); (repeat ((first | refine qT ?_ | refine qF ?_ | refine qO ?_ | (with_reducible intro z hz); (first | (replace hz := hz (by omega); subst hz) | subst hz)); (try (conv => whnf))))
     refine CallB.mk ([]) ([.box 1 [.sub 1 1 4 (F ++ c).length (T.length - (F ++ c).length)], .row 49 4 1 ((part (F ++ c) T.length).map wdv)]) (hB _ _ _ _ _ (hF)) ?_
     (try (conv => whnf)); (repeat ((first | refine qT ?_ | refine qF ?_ | refine qO ?_ | (with_reducible intro z hz); (first | (replace hz := hz (by omega); subst hz) | subst hz)); (try (conv => whnf))))
     refine Imms.mk (T.map wdv) (by rw [← hinv]; simp [part]) ?_
     exact hfin _ (ILes.refl _)
end Go.Proofs.Ytckamfmllkpafaa.Pw
