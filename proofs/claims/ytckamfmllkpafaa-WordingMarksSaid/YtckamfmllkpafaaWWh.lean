/-
  InsertAfter.
-/
import Derived.Test.YtckamfmllkpafaaWWg
namespace Go.Proofs.Ytckamfmllkpafaa.Pw
open Go Go.Pv Go.RowKit Go.Proofs.Ytckamfmllkpafaa.Pu Go.Proofs.Ytckamfmllkpafaa.Pb
set_option linter.unusedSimpArgs false
open Lab Lcs Go.Proofs.Ytckamfmllkpafaa
set_option maxRecDepth 10000
set_option maxHeartbeats 16000000
def upO (O : List Nat) (P h j : Nat) : List Nat := O.take h ++ ((O.drop h).take j).map (· + P) ++ O.drop (h + j)
theorem upO_at {O : List Nat} {P h j t : Nat} (hx : O[h + j]? = some t) : (upO O P h j)[h + j]? = some t := by
 have hlt := (List.getElem?_eq_some_iff.1 hx).1
 have hl : (O.take h ++ ((O.drop h).take j).map (· + P)).length = h + j := by
   simp only [List.length_append, List.length_map, List.length_take, List.length_drop]; omega
 unfold upO
 rw [List.getElem?_append_right (by omega), hl, Nat.sub_self, List.getElem?_drop]
 simpa using hx
theorem upO_next {O : List Nat} {P h j t : Nat} (hx : O[h + j]? = some t) : (upO O P h j).set (h + j) (t + P) = upO O P h (j + 1) := by
 have hlt := (List.getElem?_eq_some_iff.1 hx).1
 have hl : (O.take h ++ ((O.drop h).take j).map (· + P)).length = h + j := by
   simp only [List.length_append, List.length_map, List.length_take, List.length_drop]; omega
 have hd : O.drop (h + j) = t :: O.drop (h + j + 1) := by
   rw [List.drop_eq_getElem_cons hlt]
   congr 1
   exact (List.getElem?_eq_some_iff.1 hx).2
 have ht : (O.drop h).take (j + 1) = (O.drop h).take j ++ [t] := take_at (by rw [List.getElem?_drop]; exact hx)
 unfold upO
 rw [hd, List.set_append_right _ _ (by omega), hl, Nat.sub_self, List.set_cons_zero, ht, List.map_append]
 simp [Nat.add_assoc]
theorem ins_sub_pc (w : List Wd) (p nw : List Str) (nth a i : Int) (O : List Nat) (h n : Nat) (R : List Wd) (e : Int) (hP : PCB Try.prog env0 38 [.imm (.sl 4 (w.map wdv)), .imm (.sl 1 (p.map IV.str)), .imm (.int .i64 nth)] [.dead 1] [.sub 0 2 1 h n] [.row 3 1 2 ((zs O).map .imm)])
   (hn : h + n ≤ O.length) (hn0 : 0 < n) (_hw : w.length ≤ 100000) (hpl : p.length ≤ 100000) (_hnl : nw.length ≤ 1000) (hnw : nw.length ≠ 0) (hp0 : p.length ≠ 0) (hnt : 0 ≤ nth) (hO : O.length ≤ 100000) (hOm : ∀ t ∈ O, t ≤ 100000)
   (hS : PC Try.prog env0 39 [.sl 4 (w.map wdv), .sl 1 (List.take n (List.drop h (zs (upO O p.length h n)))), .int .i64 0, .sl 1 (nw.map IV.str), .int .i64 a, .int .i64 i] [.sl 4 (R.map wdv), .int .i64 e]) :
   PC Try.prog env0 22 [.sl 4 (w.map wdv), .sl 1 (p.map IV.str), .sl 1 (nw.map IV.str), .int .i64 nth, .int .i64 a, .int .i64 i] [.sl 4 (R.map wdv), .int .i64 e] := by
 have h2 : (p.map IV.str).length = p.length := List.length_map _
 have h3 : (nw.map IV.str).length = nw.length := List.length_map _
 refine PC.of_va (T := (tbw frW fun _ => false)) eqs_ok tbw_ok rfl mixed Try.func22 rfl rfl (Nat.le_of_ble_eq_true rfl) ?_; intro Γ C WK LP fin h0 hW hC hB hR hLP hfin
 (try (conv => whnf)); (repeat ((first | refine qT ?_ | refine qF ?_ | refine qO ?_ | (with_reducible intro z hz); (first | (replace hz := hz (by omega); subst hz) | subst hz)); (try (conv => whnf))))
 refine CallB.mk ([.sub 0 2 1 h n]) ([.row 3 1 2 (zs O)]) (hB _ _ _ _ _ (hP)) ?_
 (try (conv => whnf)); (repeat ((first | refine qT ?_ | refine qF ?_ | refine qO ?_ | (with_reducible intro z hz); (first | (replace hz := hz (by omega); subst hz) | subst hz)); (try (conv => whnf))))
 refine hLP _ _ _ Nat (fun j => ⟨[(0, .imm (.sl 4 (w.map wdv))), (1, .imm (.sl 1 (p.map IV.str))), (2, .imm (.sl 1 (nw.map IV.str))), (4, .imm (.int .i64 a)), (5, .imm (.int .i64 i)), (14, .sub 0 1 1 h n), (50, .sub 0 1 1 h n), (51, .imm (.int .i64 (n : Nat))), (52, .imm (.int .i64 (j : Nat)))], [.row 3 1 1 ((zs (upO O p.length h j)).map .imm)]⟩) (fun j => j ≤ n) (fun j => n - j) 0 (Nat.zero_le _) (((WeakA.row 0 ((zs (upO O p.length h 0)).map .imm) rfl (by simp [upO]))).trans (qSL 1 rfl rfl)) ?_
 intro j hj
 have hho := Nat.lt_or_ge j n
 cases hho with
 | inl hlt =>
   obtain ⟨t, hx⟩ : ∃ t, O[h + j]? = some t := ⟨O[h + j]'(by omega), List.getElem?_eq_getElem (by omega)⟩
   have htb := hOm t (List.mem_of_getElem? hx)
   have hat := upO_at (P := p.length) hx
   have hnx := upO_next (P := p.length) hx
   (try (conv => whnf)); (repeat ((first | refine qT ?_ | refine qF ?_ | refine qO ?_ | (with_reducible intro z hz); (first | (replace hz := hz (by omega); subst hz) | subst hz)); (try (conv => whnf))))
   refine At.mk (.imm (.int .i64 ((t : Nat) : Int))) (by rw [Int.toNat_natCast, List.getElem?_map, zs, List.getElem?_map, hat]; rfl) ?_
   (try (conv => whnf)); (repeat ((first | refine qT ?_ | refine qF ?_ | refine qO ?_ | (with_reducible intro z hz); (first | (replace hz := hz (by omega); subst hz) | subst hz)); (try (conv => whnf))))
   refine At.mk (.imm (.int .i64 ((t : Nat) : Int))) (by rw [Int.toNat_natCast, List.getElem?_map, zs, List.getElem?_map, hat]; rfl) ?_
   (try (conv => whnf)); (repeat ((first | refine qT ?_ | refine qF ?_ | refine qO ?_ | (with_reducible intro z hz); (first | (replace hz := hz (by omega); subst hz) | subst hz)); (try (conv => whnf))))
   exact ⟨j + 1, by omega, by dsimp only; omega, ((WeakA.row 0 ((zs (upO O p.length h (j + 1))).map .imm) rfl (by rw [← hnx]; simp [zs, zi, List.map_set]; rfl))).trans (qSL 1 rfl rfl)⟩
 | inr hge =>
   obtain rfl : j = n := by omega
   (try (conv => whnf)); (repeat ((first | refine qT ?_ | refine qF ?_ | refine qO ?_ | (with_reducible intro z hz); (first | (replace hz := hz (by omega); subst hz) | subst hz)); (try (conv => whnf))))
   refine Imms.mk (zs (upO O p.length h j)) rfl ?_
   (try (conv => whnf)); (repeat ((first | refine qT ?_ | refine qF ?_ | refine qO ?_ | (with_reducible intro z hz); (first | (replace hz := hz (by omega); subst hz) | subst hz) | (refine CallV.mk _ (hC _ _ _ (PCw.of hS)) (fun js hjs => ?_); subst hjs)); (try (conv => whnf))))
   exact hfin _ (ILes.refl _)
def heldW (T : List Wd) : List Wd × Int := if 256 < T.length then ([], 6) else (T, 0)
def insW (w : List Wd) (p nw : List Str) (nth a i : Int) : List Wd × Int :=
 if nw.length = 0 ∨ nth < 0 ∨ (p.length = 0 ∧ nth ≠ 0) then ([], 1) else
 if p.length = 0 then heldW (spl w 0 nw a i 0 0 [0]) else
 if (chs (occs (txts w) p) nth).length = 0 then ([], 4) else heldW (spl w 0 nw a i 0 0 ((chs (occs (txts w) p) nth).map (· + p.length)))
theorem ok_up {N P : Nat} : ∀ {l : List Nat} {d : Nat}, OkAt N P d l → OkAt N 0 d (l.map (· + P))
 | [], d, h => h
 | t :: r, d, ⟨h1, h2, h3⟩ => ⟨(by show d ≤ t + P; omega), (by show t + P + 0 ≤ N; omega), ok_up h3⟩
theorem occs_mem {w : List Wd} {p : List Str} (hp : 0 < p.length) : ∀ t ∈ occs (txts w) p, t + p.length ≤ w.length := fun t ht => by
 have h := ok_occs (w := w) hp 0
 have : chs (occs (txts w) p) 0 = occs (txts w) p := by unfold chs; rw [if_pos rfl]
 rw [this] at h
 exact (ok_mem h t ht).2
theorem upO_part {O : List Nat} {P h n : Nat} (hn : h + n ≤ O.length) : List.take n (List.drop h (zs (upO O P h n))) = zs (((O.drop h).take n).map (· + P)) := by
 have h1 : (O.take h).length = h := by rw [List.length_take]; omega
 have h2 : (((O.drop h).take n).map (· + P)).length = n := by rw [List.length_map, List.length_take, List.length_drop]; omega
 unfold zs upO
 rw [← List.map_drop, ← List.map_take]
 congr 1
 rw [List.append_assoc, List.drop_append, h1, List.drop_of_length_le (by omega), Nat.sub_self, List.drop_zero, List.nil_append]
 rw [List.take_append, h2, Nat.sub_self, List.take_zero, List.append_nil, List.take_of_length_le (by rw [h2]; exact Nat.le_refl _)]
theorem insert_pc (w : List Wd) (p nw : List Str) (nth a i : Int) (hw : w.length ≤ 100000) (hpl : p.length ≤ 100000) (hnl : nw.length ≤ 1000) : PC Try.prog env0 22 [.sl 4 (w.map wdv), .sl 1 (p.map IV.str), .sl 1 (nw.map IV.str), .int .i64 nth, .int .i64 a, .int .i64 i] (out2 (insW w p nw nth a i)) := by
 have h2 : (p.map IV.str).length = p.length := List.length_map _
 have h3 : (nw.map IV.str).length = nw.length := List.length_map _
 unfold insW
 by_cases c1 : nw.length = 0
 · rw [if_pos (Or.inl c1)]
   unfold out2
   refine PC.of_va (T := (tbw frW fun _ => false)) eqs_ok tbw_ok rfl mixed Try.func22 rfl rfl (Nat.le_of_ble_eq_true rfl) ?_; intro Γ C WK LP fin h0 hW hC hB hR hLP hfin
   (try (conv => whnf)); (repeat ((first | refine qT ?_ | refine qF ?_ | refine qO ?_ | (with_reducible intro z hz); (first | (replace hz := hz (by omega); subst hz) | subst hz)); (try (conv => whnf))))
   exact hfin _ (.cons (.nil 4) (.refl _))
 by_cases c2 : nth < 0
 · rw [if_pos (Or.inr (Or.inl c2))]
   unfold out2
   refine PC.of_va (T := (tbw frW fun _ => false)) eqs_ok tbw_ok rfl mixed Try.func22 rfl rfl (Nat.le_of_ble_eq_true rfl) ?_; intro Γ C WK LP fin h0 hW hC hB hR hLP hfin
   (try (conv => whnf)); (repeat ((first | refine qT ?_ | refine qF ?_ | refine qO ?_ | (with_reducible intro z hz); (first | (replace hz := hz (by omega); subst hz) | subst hz)); (try (conv => whnf))))
   exact hfin _ (.cons (.nil 4) (.refl _))
 by_cases c3 : p.length = 0
 · by_cases c4 : nth = 0
   · rw [if_neg (by omega), if_pos c3]
     have hS := splice_pc w [0] 0 nw a i ⟨Nat.zero_le _, Nat.zero_le _, Nat.zero_le _⟩ hw (by simp) (by omega) (by omega)
     generalize spl w 0 nw a i 0 0 [0] = T at hS ⊢
     have hS2 : PC Try.prog env0 39 [.sl 4 (w.map wdv), .sl 1 [.int .i64 0], .int .i64 0, .sl 1 (nw.map IV.str), .int .i64 a, .int .i64 i] (out2 (heldW T)) := by
       unfold out2 heldW
       by_cases hb : 256 < T.length
       · rw [if_pos hb] at hS ⊢; exact hS
       · rw [if_neg hb] at hS ⊢; exact hS
     generalize heldW T = R at hS2 ⊢
     unfold out2 at *
     refine PC.of_va (T := (tbw frW fun _ => false)) eqs_ok tbw_ok rfl mixed Try.func22 rfl rfl (Nat.le_of_ble_eq_true rfl) ?_; intro Γ C WK LP fin h0 hW hC hB hR hLP hfin
     (try (conv => whnf)); (repeat ((first | refine qT ?_ | refine qF ?_ | refine qO ?_ | (with_reducible intro z hz); (first | (replace hz := hz (by omega); subst hz) | subst hz)); (try (conv => whnf))))
     refine Imms.mk [.int .i64 0] rfl ?_
     (try (conv => whnf)); (repeat ((first | refine qT ?_ | refine qF ?_ | refine qO ?_ | (with_reducible intro z hz); (first | (replace hz := hz (by omega); subst hz) | subst hz) | (refine CallV.mk _ (hC _ _ _ (PCw.of hS2)) (fun js hjs => ?_); subst hjs)); (try (conv => whnf))))
     exact hfin _ (ILes.refl _)
   · rw [if_pos (Or.inr (Or.inr ⟨c3, c4⟩))]
     unfold out2
     refine PC.of_va (T := (tbw frW fun _ => false)) eqs_ok tbw_ok rfl mixed Try.func22 rfl rfl (Nat.le_of_ble_eq_true rfl) ?_; intro Γ C WK LP fin h0 hW hC hB hR hLP hfin
     (try (conv => whnf)); (repeat ((first | refine qT ?_ | refine qF ?_ | refine qO ?_ | (with_reducible intro z hz); (first | (replace hz := hz (by omega); subst hz) | subst hz)); (try (conv => whnf))))
     exact hfin _ (.cons (.nil 4) (.refl _))
 rw [if_neg (by omega), if_neg c3]
 have hol := occs_len (txts w) p
 rw [txts_len] at hol
 have hom := occs_mem (w := w) (p := p) (by omega)
 have hok := ok_occs (w := w) (p := p) (by omega) nth
 have hcl := chs_len (occs (txts w) p) nth
 have main : ∀ (h n : Nat), PCB Try.prog env0 38 [.imm (.sl 4 (w.map wdv)), .imm (.sl 1 (p.map IV.str)), .imm (.int .i64 nth)] [.dead 1] [.sub 0 2 1 h n] [.row 3 1 2 ((zs (occs (txts w) p)).map .imm)] → h + n ≤ (occs (txts w) p).length → 0 < n → ((occs (txts w) p).drop h).take n = chs (occs (txts w) p) nth →
     PC Try.prog env0 22 [.sl 4 (w.map wdv), .sl 1 (p.map IV.str), .sl 1 (nw.map IV.str), .int .i64 nth, .int .i64 a, .int .i64 i] (out2 (heldW (spl w 0 nw a i 0 0 ((chs (occs (txts w) p) nth).map (· + p.length))))) := by
   intro h n hP hn hn0 hC
   have hS := splice_pc w ((chs (occs (txts w) p) nth).map (· + p.length)) 0 nw a i (ok_up hok) hw (by rw [List.length_map]; omega) (by omega) (by omega)
   generalize spl w 0 nw a i 0 0 ((chs (occs (txts w) p) nth).map (· + p.length)) = T at hS ⊢
   rw [← hC, ← upO_part hn] at hS
   have hS2 : PC Try.prog env0 39 [.sl 4 (w.map wdv), .sl 1 (List.take n (List.drop h (zs (upO (occs (txts w) p) p.length h n)))), .int .i64 0, .sl 1 (nw.map IV.str), .int .i64 a, .int .i64 i] (out2 (heldW T)) := by
     unfold out2 heldW
     by_cases hb : 256 < T.length
     · rw [if_pos hb] at hS ⊢; exact hS
     · rw [if_neg hb] at hS ⊢; exact hS
   exact ins_sub_pc w p nw nth a i (occs (txts w) p) h n _ _ hP hn hn0 hw hpl hnl c1 c3 (by omega) (by omega) (fun t ht => by have := hom t ht; omega) hS2
 by_cases c4 : nth = 0
 · have hP := PCB.sub (occurR_pcb w p nth hw hpl c4) rfl
   rw [show ((zs (occs (txts w) p)).map PV.imm).length = (occs (txts w) p).length by rw [List.length_map, zs_len]] at hP
   have hC : chs (occs (txts w) p) nth = occs (txts w) p := by unfold chs; rw [if_pos c4]
   by_cases c5 : (chs (occs (txts w) p) nth).length = 0
   · rw [if_pos c5]
     rw [hC] at c5
     rw [c5] at hP
     unfold out2
     refine PC.of_va (T := (tbw frW fun _ => false)) eqs_ok tbw_ok rfl mixed Try.func22 rfl rfl (Nat.le_of_ble_eq_true rfl) ?_; intro Γ C WK LP fin h0 hW hC hB hR hLP hfin
     (try (conv => whnf)); (repeat ((first | refine qT ?_ | refine qF ?_ | refine qO ?_ | (with_reducible intro z hz); (first | (replace hz := hz (by omega); subst hz) | subst hz)); (try (conv => whnf))))
     refine CallB.mk ([.sub 0 2 1 0 0]) ([.row 3 1 2 (zs (occs (txts w) p))]) (hB _ _ _ _ _ (hP)) ?_
     (try (conv => whnf)); (repeat ((first | refine qT ?_ | refine qF ?_ | refine qO ?_ | (with_reducible intro z hz); (first | (replace hz := hz (by omega); subst hz) | subst hz)); (try (conv => whnf))))
     exact hfin _ (.cons (.nil 4) (.refl _))
   · rw [if_neg c5]
     refine main 0 _ hP (by omega) (by rw [hC] at c5; omega) ?_
     rw [hC, List.drop_zero, List.take_length]
 · by_cases c5 : nth ≤ ((occs (txts w) p).length : Int)
   · have hP := occurS_pcb w p nth hw hpl (by omega) c5
     have hC : chs (occs (txts w) p) nth = ((occs (txts w) p).drop (nth.toNat - 1)).take 1 := by unfold chs; rw [if_neg c4]
     have hC1 : (chs (occs (txts w) p) nth).length = 1 := by rw [hC, List.length_take, List.length_drop]; omega
     rw [if_neg (by omega)]
     exact main _ _ hP (by omega) (by omega) hC.symm
   · have hP := occurN_pcb w p nth hw hpl (by omega) c5
     rw [chs_miss c4 (by omega), if_pos (show ([] : List Nat).length = 0 from rfl)]
     unfold out2
     refine PC.of_va (T := (tbw frW fun _ => false)) eqs_ok tbw_ok rfl mixed Try.func22 rfl rfl (Nat.le_of_ble_eq_true rfl) ?_; intro Γ C WK LP fin h0 hW hC hB hR hLP hfin
     (try (conv => whnf)); (repeat ((first | refine qT ?_ | refine qF ?_ | refine qO ?_ | (with_reducible intro z hz); (first | (replace hz := hz (by omega); subst hz) | subst hz)); (try (conv => whnf))))
     refine CallB.mk ([.imm .nil]) ([.dead 1]) (hB _ _ _ _ _ (hP)) ?_
     (try (conv => whnf)); (repeat ((first | refine qT ?_ | refine qF ?_ | refine qO ?_ | (with_reducible intro z hz); (first | (replace hz := hz (by omega); subst hz) | subst hz)); (try (conv => whnf))))
     exact hfin _ (.cons (.nil 4) (.refl _))
end Go.Proofs.Ytckamfmllkpafaa.Pw
