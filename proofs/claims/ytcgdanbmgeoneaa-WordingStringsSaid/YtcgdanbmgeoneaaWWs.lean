/-
  wordseq's rewriting.
-/
import Derived.Test.YtcgdanbmgeoneaaWWq
namespace Go.Proofs.Ytcgdanbmgeoneaa.Pw
open Go Go.Pv Go.RowKit Go.Proofs.Ytcgdanbmgeoneaa.Pu Go.Proofs.Ytcgdanbmgeoneaa.Pb
set_option linter.unusedSimpArgs false
open Lab Lcs Go.Proofs.Ytcgdanbmgeoneaa
set_option maxRecDepth 10000
set_option maxHeartbeats 16000000
theorem tqu_fn : tdOf Try.prog 85 = some ⟨false, 1, [.nf], .fn⟩ := by kernel_rfl
def tdu : List (TypeId × TD) := (85, ⟨false, 1, [.nf], .fn⟩) :: tdf
theorem tdu_ok : AllTd Try.prog tdu := ⟨tqu_fn, tdf_ok⟩
def nwU (f : FuncId) : Nat := bif Nat.beq f 56 then 1 else bif Nat.beq f 58 then 1 else bif Nat.beq f 55 then 2 else 0
def tbu0 (fr : Nat → List Nat) (hk : Nat → Bool) : Tb := ⟨Pv.look tdu, eqs, fun _ => none, fr, hk, nwU⟩
theorem tbu_ok {fr : Nat → List Nat} {hk : Nat → Bool} : ∀ t d, (tbu0 fr hk).td t = some d → tdOf Try.prog t = some d := Pv.look_ok tdu_ok
def tbu : Tb := tbu0 (fun _ => []) fun _ => false
theorem rep1_pcb (xs nw : List Str) (hx : xs.length ≤ 100000000) (hn : nw.length ≤ 1000000) : PCB Try.prog env0 56 [.row 1 1, .ptr 0 1 0] [.box 1 [.imm (.sl 1 (nw.map IV.str))], .row 9 1 1 ((xs.map IV.str).map .imm)] [.row 1 2] [.box 1 [.imm (.sl 1 (nw.map IV.str))], .row 9 1 2 (((xs ++ nw).map IV.str).map .imm)] := by
 have h1 : ((xs.map IV.str).map PV.imm).length = xs.length := by rw [List.length_map, List.length_map]
 have h2 : (nw.map IV.str).length = nw.length := List.length_map _
 refine PCB.of_va (T := tbu) eqs_ok tbu_ok rfl mixed Try.func56 rfl rfl rfl (Nat.le_of_ble_eq_true rfl) rfl ?_; intro Γ C WK LP fin h0 hk0 hW hC hB hR hLP hfin
 (try (conv => whnf)); (repeat ((first | refine qT ?_ | refine qF ?_ | refine qO ?_ | (with_reducible intro z hz); (first | (replace hz := hz (by omega); subst hz) | subst hz)); (try (conv => whnf))))
 exact hfin _ (((WeakA.row 1 (((xs ++ nw).map IV.str).map .imm) rfl (by simp))).trans (qSL 2 rfl rfl))
def rwS (l : List Str) (P : Nat) (A : List Str) : Nat → List Nat → List Str
 | d, [] => l.drop d
 | d, t :: r => (l.drop d).take (t - d) ++ A ++ rwS l P A (t + P) r
theorem rwS_len {l : List Str} {P : Nat} {A : List Str} : ∀ (c : List Nat) (d : Nat), (rwS l P A d c).length ≤ l.length + c.length * (A.length + l.length)
 | [], d => by simp [rwS]
 | t :: r, d => by
   have ih := rwS_len (l := l) (P := P) (A := A) r (t + P)
   simp only [rwS, List.length_append, List.length_take, List.length_drop, List.length_cons]
   rw [Nat.add_mul]
   omega
def rest (O : List Nat) (nth : Int) (i : Nat) : List Nat := if nth = 0 then O.drop i else if (i : Int) < nth then (O.drop (nth.toNat - 1)).take 1 else []
theorem rest_0 {O : List Nat} {nth : Int} (h : 0 ≤ nth) : rest O nth 0 = chs O nth := by
 unfold rest chs
 by_cases h0 : nth = 0
 · rw [if_pos h0, if_pos h0, List.drop_zero]
 · rw [if_neg h0, if_neg h0, if_pos (by omega)]
theorem rest_end {O : List Nat} {nth : Int} (_h : 0 ≤ nth) : rest O nth O.length = [] := by
 unfold rest
 by_cases h0 : nth = 0
 · rw [if_pos h0, List.drop_length]
 · rw [if_neg h0]
   split
   · rw [List.drop_of_length_le (by omega)]; rfl
   · rfl
theorem rest_hit {O : List Nat} {nth : Int} {i t : Nat} (_h : 0 ≤ nth) (ht : O[i]? = some t) (hs : nth = 0 ∨ nth = (i : Int) + 1) : rest O nth i = t :: rest O nth (i + 1) := by
 obtain ⟨hlt, he⟩ := List.getElem?_eq_some_iff.1 ht
 unfold rest
 rcases hs with h0 | h0
 · rw [if_pos h0, if_pos h0, List.drop_eq_getElem_cons hlt, he]
 · have e0 : ¬ nth = 0 := by omega
   have e1 : (i : Int) < nth := by omega
   have e2 : ¬ ((i + 1 : Nat) : Int) < nth := by omega
   rw [if_neg e0, if_neg e0, if_pos e1, if_neg e2, show nth.toNat - 1 = i by omega, List.drop_eq_getElem_cons hlt, he]
   rfl
theorem rest_miss {O : List Nat} {nth : Int} {i t : Nat} (_h : 0 ≤ nth) (_ht : O[i]? = some t) (hs : ¬ (nth = 0 ∨ nth = (i : Int) + 1)) : rest O nth (i + 1) = rest O nth i := by
 unfold rest
 have e0 : ¬ nth = 0 := fun e => hs (Or.inl e)
 rw [if_neg e0, if_neg e0]
 by_cases h1 : (i : Int) < nth
 · have e2 : ((i + 1 : Nat) : Int) < nth := by omega
   rw [if_pos h1, if_pos e2]
 · have e2 : ¬ ((i + 1 : Nat) : Int) < nth := by omega
   rw [if_neg h1, if_neg e2]
theorem rwr_pcb (l p nw : List Str) (nth : Int) (hl : l.length ≤ 1000) (hp : p.length ≤ 1000) (hp0 : 0 < p.length) (hn : nw.length ≤ 1000) (h00 : 0 ≤ nth) :
   PCB Try.prog env0 55 [.imm (.sl 1 (l.map IV.str)), .imm (.sl 1 (p.map IV.str)), .imm (.int .i64 nth), .clo 56 [.ptr 0 1 0]] [.box 1 [.imm (.sl 1 (nw.map IV.str))], .dead 1] [.row 1 2, .imm (.int .i64 ((chs (occs l p) nth).length : Nat))] [.box 1 [.imm (.sl 1 (nw.map IV.str))], .row 9 1 2 (((rwS l p.length (nw) 0 (chs (occs l p) nth)).map IV.str).map .imm)] := by
 have h1 : (l.map IV.str).length = l.length := List.length_map _
 have h2 : (p.map IV.str).length = p.length := List.length_map _
 have hFA := findAll4_pc l p (by omega) (by omega)
 have hok : OkAt l.length p.length 0 (chs (occs l p) nth) := ok_chs (by rw [occs_F hp0]; exact ok_occ hp0 _ 0 (Nat.le_refl _) (Nat.le_refl _) (Nat.zero_le _) rfl)
 have hol : (occs l p).length ≤ l.length := by
   rw [occs_F hp0]
   have := occF_len l p hp0 (l.length + 1) 0 (by omega)
   omega
 generalize occs l p = O at hFA hok hol ⊢
 have hz : (zs O).length = O.length := zs_len O
 obtain ⟨C0, hC0⟩ : ∃ C0, chs O nth = C0 := ⟨_, rfl⟩
 rw [hC0] at hok ⊢
 have hr0 : rest O nth 0 = C0 := by rw [← hC0]; exact rest_0 h00
 have hcl : C0.length ≤ O.length := by rw [← hC0]; exact chs_len _ _
 obtain ⟨X, hX⟩ : ∃ X, rwS l p.length (nw) 0 C0 = X := ⟨_, rfl⟩
 rw [hX]
 have hXl : X.length ≤ 10000000 := by
   rw [← hX]
   have := rwS_len (l := l) (P := p.length) (A := nw) C0 0
   have hA : (nw).length ≤ 2000 := by first | omega | (rw [List.length_append]; omega)
   have h3 : C0.length * (nw).length ≤ 1000 * 2000 := Nat.mul_le_mul (by omega) hA
   have h4 : C0.length * l.length ≤ 1000 * 1000 := Nat.mul_le_mul (by omega) (by omega)
   rw [Nat.mul_add] at this
   omega
 refine PCB.of_va (T := tbu) eqs_ok tbu_ok rfl mixed Try.func55 rfl rfl rfl (Nat.le_of_ble_eq_true rfl) rfl ?_; intro Γ C WK LP fin h0 hk0 hW hC hB hR hLP hfin
 (try (conv => whnf)); (repeat ((first | refine qT ?_ | refine qF ?_ | refine qO ?_ | (with_reducible intro z hz); (first | (replace hz := hz (by omega); subst hz) | subst hz) | (refine CallV.mk _ (hC _ _ _ (PCw.of hFA)) (fun js hjs => ?_); subst hjs)); (try (conv => whnf))))
 refine hLP _ _ _ (Nat × Nat × List Str × Nat) (fun q => ⟨[(0, .imm (.sl 1 (l.map IV.str))), (1, .imm (.sl 1 (p.map IV.str))), (2, .imm (.int .i64 nth)), (3, .clo 56 [.ptr 0 1 0]), (10, .row 3 1), (11, .imm (.int .i64 (q.2.2.2 : Nat))), (12, .imm (.int .i64 (q.2.1 : Nat))), (17, .imm (.sl 1 (zs O))), (18, .imm (.int .i64 (O.length : Nat))), (19, .imm (.int .i64 (q.1 : Nat)))], [.box 1 [.imm (.sl 1 (nw.map IV.str))], .dead 1, .dead 0, .row 9 1 1 ((q.2.2.1.map IV.str).map .imm)]⟩) (fun q => q.1 ≤ O.length ∧ OkAt l.length p.length q.2.1 (rest O nth q.1) ∧ X = q.2.2.1 ++ rwS l p.length (nw) q.2.1 (rest O nth q.1) ∧ q.2.2.2 + (rest O nth q.1).length = C0.length) (fun q => O.length - q.1) (0, 0, [], 0) ⟨Nat.zero_le _, by rw [hr0]; exact hok, by rw [hr0, hX]; rfl, by dsimp only; rw [hr0]; exact Nat.zero_add _⟩ ((WeakA.nilSlot 10 9 1 (Nat.le_of_ble_eq_true rfl) rfl).trans (((WeakA.row 3 ((([] : List Str).map IV.str).map .imm) rfl (by rfl))).trans (qSL 4 rfl rfl))) ?_
 rintro ⟨i, d, F, c⟩ ⟨hi, hki, hinv, hc⟩
 dsimp only at hi hki hinv hc ⊢
 have hFl : F.length + (rwS l p.length (nw) d (rest O nth i)).length = X.length := by rw [hinv, List.length_append]
 have hFz : ((F.map IV.str).map PV.imm).length = F.length := by rw [List.length_map, List.length_map]
 have hho := Nat.lt_or_ge i O.length
 cases hho with
 | inl hlt =>
   obtain ⟨t, ht⟩ : ∃ t, O[i]? = some t := ⟨O[i], List.getElem?_eq_getElem hlt⟩
   by_cases hs : nth = 0 ∨ nth = (i : Int) + 1
   · have hrr := rest_hit h00 ht hs
     rw [hrr] at hki hinv hc hFl
     obtain ⟨g1, g2, g3⟩ := hki
     obtain ⟨s, hsg⟩ : ∃ s, (l.drop d).take (t - d) = s := ⟨_, rfl⟩
     simp only [rwS] at hinv hFl
     rw [hsg] at hinv hFl
     have hsl : s.length = t - d := by rw [← hsg, List.length_take, List.length_drop]; omega
     simp only [List.length_append, List.length_cons] at hFl hc
     have hsub : List.take (((t : Nat) : Int).toNat - ((d : Nat) : Int).toNat) (List.drop ((d : Nat) : Int).toNat (l.map IV.str)) = s.map IV.str := by
       rw [Int.toNat_natCast, Int.toNat_natCast, ← hsg, List.map_take, List.map_drop]
     have hsz : (List.take (((t : Nat) : Int).toNat - ((d : Nat) : Int).toNat) (List.drop ((d : Nat) : Int).toNat (l.map IV.str))).length = t - d := by rw [hsub, List.length_map, hsl]
     have hO1 : ((F.map IV.str).map PV.imm).length + (List.take (((t : Nat) : Int).toNat - ((d : Nat) : Int).toNat) (List.drop ((d : Nat) : Int).toNat (l.map IV.str))).length ≤ most := by unfold most; omega
     have hes : (F.map IV.str).map PV.imm ++ (List.take (((t : Nat) : Int).toNat - ((d : Nat) : Int).toNat) (List.drop ((d : Nat) : Int).toNat (l.map IV.str))).map PV.imm = ((F ++ s).map IV.str).map PV.imm := by rw [hsub]; simp
     have hR := rep1_pcb (F ++ s) nw (by rw [List.length_append]; omega) (by omega)
     rcases hs with hs | hs
     · subst hs
       (try (conv => whnf)); (repeat ((first | refine qT ?_ | refine qF ?_ | refine qO ?_ | (with_reducible intro z hz); (first | (replace hz := hz (by omega); subst hz) | subst hz)); (try (conv => whnf))))
       refine Idx.mk i (.int .i64 ((t : Nat) : Int)) _ rfl (by simp [zs, zi, ht]) rfl ?_
       (try (conv => whnf)); (repeat ((first | refine qT ?_ | refine qF ?_ | refine qO ?_ | (with_reducible intro z hz); (first | (replace hz := hz (by omega); subst hz) | subst hz)); (try (conv => whnf))))
       refine Imms.mk ((F ++ s).map IV.str) hes ?_
       (try (conv => whnf)); (repeat ((first | refine qT ?_ | refine qF ?_ | refine qO ?_ | (with_reducible intro z hz); (first | (replace hz := hz (by omega); subst hz) | subst hz)); (try (conv => whnf))))
       refine CallB.mk ([.row 1 2]) ([.box 1 [.imm (.sl 1 (nw.map IV.str))], .row 9 1 2 ((F ++ s ++ (nw)).map IV.str)]) (hB _ _ _ _ _ (hR)) ?_
       (try (conv => whnf)); (repeat ((first | refine qT ?_ | refine qF ?_ | refine qO ?_ | (with_reducible intro z hz); (first | (replace hz := hz (by omega); subst hz) | subst hz)); (try (conv => whnf))))
       exact ⟨(i + 1, t + p.length, F ++ s ++ (nw), c + 1), ⟨by dsimp only; omega, g3, by rw [hinv]; simp, by dsimp only; omega⟩, by dsimp only; omega, (WeakA.renew 3 1 rfl (fun hh => absurd hh (by rw [h0]; exact Nat.not_lt_of_le (Nat.le_of_ble_eq_true rfl))) (by repeat (first | exact trivial | refine And.intro (rgL_imms _ _ _ _) ?_ | refine And.intro rfl ?_))).trans (qSL 4 rfl rfl)⟩
     · (try (conv => whnf)); (repeat ((first | refine qT ?_ | refine qF ?_ | refine qO ?_ | (with_reducible intro z hz); (first | (replace hz := hz (by omega); subst hz) | subst hz)); (try (conv => whnf))))
       refine Idx.mk i (.int .i64 ((t : Nat) : Int)) _ rfl (by simp [zs, zi, ht]) rfl ?_
       (try (conv => whnf)); (repeat ((first | refine qT ?_ | refine qF ?_ | refine qO ?_ | (with_reducible intro z hz); (first | (replace hz := hz (by omega); subst hz) | subst hz)); (try (conv => whnf))))
       refine Imms.mk ((F ++ s).map IV.str) hes ?_
       (try (conv => whnf)); (repeat ((first | refine qT ?_ | refine qF ?_ | refine qO ?_ | (with_reducible intro z hz); (first | (replace hz := hz (by omega); subst hz) | subst hz)); (try (conv => whnf))))
       refine CallB.mk ([.row 1 2]) ([.box 1 [.imm (.sl 1 (nw.map IV.str))], .row 9 1 2 ((F ++ s ++ (nw)).map IV.str)]) (hB _ _ _ _ _ (hR)) ?_
       (try (conv => whnf)); (repeat ((first | refine qT ?_ | refine qF ?_ | refine qO ?_ | (with_reducible intro z hz); (first | (replace hz := hz (by omega); subst hz) | subst hz)); (try (conv => whnf))))
       exact ⟨(i + 1, t + p.length, F ++ s ++ (nw), c + 1), ⟨by dsimp only; omega, g3, by rw [hinv]; simp, by dsimp only; omega⟩, by dsimp only; omega, (WeakA.renew 3 1 rfl (fun hh => absurd hh (by rw [h0]; exact Nat.not_lt_of_le (Nat.le_of_ble_eq_true rfl))) (by repeat (first | exact trivial | refine And.intro (rgL_imms _ _ _ _) ?_ | refine And.intro rfl ?_))).trans (qSL 4 rfl rfl)⟩
   · have hrr := rest_miss h00 ht hs
     rw [← hrr] at hki hinv hc
     (try (conv => whnf)); (repeat ((first | refine qT ?_ | refine qF ?_ | refine qO ?_ | (with_reducible intro z hz); (first | (replace hz := hz (by omega); subst hz) | subst hz)); (try (conv => whnf))))
     refine Idx.mk i (.int .i64 ((t : Nat) : Int)) _ rfl (by simp [zs, zi, ht]) rfl ?_
     (try (conv => whnf)); (repeat ((first | refine qT ?_ | refine qF ?_ | refine qO ?_ | (with_reducible intro z hz); (first | (replace hz := hz (by omega); subst hz) | subst hz)); (try (conv => whnf))))
     exact ⟨(i + 1, d, F, c), ⟨by dsimp only; omega, hki, hinv, hc⟩, by dsimp only; omega, (qSL 4 rfl rfl)⟩
 | inr hge =>
   obtain rfl : i = O.length := by omega
   rw [rest_end h00] at hki hinv hc hFl
   have hdl : d ≤ l.length := hki
   simp only [rwS] at hinv hFl
   have hsub : List.drop ((d : Nat) : Int).toNat (l.map IV.str) = (l.drop d).map IV.str := by rw [Int.toNat_natCast, List.map_drop]
   have hsl : (List.drop ((d : Nat) : Int).toNat (l.map IV.str)).length = l.length - d := by rw [hsub, List.length_map, List.length_drop]
   rw [List.length_drop] at hFl
   have hO1 : ((F.map IV.str).map PV.imm).length + (List.drop ((d : Nat) : Int).toNat (l.map IV.str)).length ≤ most := by unfold most; omega
   have hcc : c = C0.length := by simpa using hc
   subst hcc
   (try (conv => whnf)); (repeat ((first | refine qT ?_ | refine qF ?_ | refine qO ?_ | (with_reducible intro z hz); (first | (replace hz := hz (by omega); subst hz) | subst hz)); (try (conv => whnf))))
   exact hfin _ (WeakA.trans ((WeakA.row 3 ((X.map IV.str).map .imm) rfl (by rw [hsub, hinv]; simp))) (WeakA.trans (WeakA.adopt 1 3 2 (by decide) rfl rfl (by rw [h0]; exact Nat.le_of_ble_eq_true rfl) (by first | omega | (intro _; rw [hk0 _ _ rfl]; exact Nat.le_of_ble_eq_true rfl)) (by repeat (first | exact trivial | refine And.intro (mvL_imms _ _ _ _ _) ?_ | refine And.intro rfl ?_))) (qSL 2 rfl rfl)))
end Go.Proofs.Ytcgdanbmgeoneaa.Pw
