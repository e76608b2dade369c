/-
  The law of lines.
-/
import Derived.Test.YtaciihgejkhlnaaWCn
namespace Go.Proofs.Ytaciihgejkhlnaa.Pb
open Go Go.Pv Go.RowKit
set_option linter.unusedSimpArgs false
open Lab Lcs Go.Proofs.Ytaciihgejkhlnaa Go.Proofs.Ytaciihgejkhlnaa.Pu Go.Proofs.Ytaciihgejkhlnaa.Pt
set_option maxRecDepth 10000
set_option maxHeartbeats 16000000
theorem all_take {α : Type} {P : α → Prop} {l : List α} {k : Nat} {x : α} (h : ∀ y ∈ l.take k, P y) (hx : l[k]? = some x) (hp : P x) : ∀ y ∈ l.take (k + 1), P y := by
 rw [take_at hx]
 intro y hy
 rcases List.mem_append.1 hy with hy | hy
 · exact h y hy
 · rw [List.mem_singleton.1 hy]; exact hp
theorem ret_of {T : Tb} {n : Nat} {s : AS} {fin : List IV → Prop} (hn : 2 < n) (h : lookV s.A 2 = .imm (.bool true)) (hf : fin [.bool true]) : resA T n s [.tmp 2] fin := by
 unfold resA
 rw [getN_eq, toL_get, if_pos hn, h]
 exact hf
theorem cnt_ex (s : Str) (m : Nat) (f1 : bars s = m) : ∃ cn : Nat → Nat, cn 0 = 0 ∧ (∀ k b, s.data[k]? = some b → cn (k + 1) = cn k + (if b = 124 then 1 else 0)) ∧ cn s.size = m ∧ ∀ k, cn k ≤ k := by
 refine ⟨fun k => (s.data.toList.take k).count 124, rfl, fun k b hb => ?_, ?_, fun k => ?_⟩
 · show (s.data.toList.take (k + 1)).count 124 = (s.data.toList.take k).count 124 + _
   rw [take_at (x := b) (by rw [Array.getElem?_toList]; exact hb), List.count_append]
   by_cases hb4 : b = 124
   · subst hb4; rw [if_pos rfl]; rfl
   · have : List.count 124 [b] = 0 := List.count_eq_zero.2 fun e => hb4 (List.mem_singleton.1 e).symm
     rw [this, if_neg hb4]
 · show (s.data.toList.take s.size).count 124 = m
   rw [size_list, List.take_length]
   exact f1
 · exact Nat.le_trans List.count_le_length (by rw [List.length_take]; omega)
def cleanS (s : Str) : Prop := ∀ b ∈ s.data.toList, b ≠ 124
def cleanY (y : Ut) : Prop := ∀ a ∈ y.words, cleanS a.text
def cleanX (x : Ut) : Prop := ∀ y ∈ x.kids, cleanY y
theorem tlines_pc (t : Ut) : PC Try.prog env0 5 [uv t] [.bool true] := by
 have hA := awake_pc
 have hF := big_pc t
 have hte := uv_eq t
 by_cases hb : bigB t = true
 · rw [hb] at hF
   rw [hte] at hF ⊢
   refine PC.of_va (T := tb0) eqs_ok tb_ok rfl mixed Try.func5 rfl rfl (Nat.le_of_ble_eq_true rfl) ?_; intro Γ C WK LP fin h0 hW hC hB hR hLP hfin
   (try (conv => whnf)); (repeat ((first | refine qT ?_ | refine qF ?_ | refine qO ?_ | (with_reducible intro z hz); (first | (replace hz := hz (by omega); subst hz) | subst hz) | (refine CallV.mk _ (hC _ _ _ (PCw.of hA)) (fun js hjs => ?_); subst hjs) | (refine CallV.mk _ (hC _ _ _ (PCw.of hF)) (fun js hjs => ?_); subst hjs)); (try (conv => whnf))))
   exact hfin _ (ILes.refl _)
 rw [Bool.not_eq_true] at hb
 obtain ⟨hS, hct⟩ := big_small hb
 rw [hb] at hF
 have h1 := rmay_pc t hS
 by_cases hv : validT t = true
 rotate_left
 · rw [Bool.not_eq_true] at hv
   rw [hv] at h1
   rw [hte] at hF h1 ⊢
   refine PC.of_va (T := tb0) eqs_ok tb_ok rfl mixed Try.func5 rfl rfl (Nat.le_of_ble_eq_true rfl) ?_; intro Γ C WK LP fin h0 hW hC hB hR hLP hfin
   (try (conv => whnf)); (repeat ((first | refine qT ?_ | refine qF ?_ | refine qO ?_ | (with_reducible intro z hz); (first | (replace hz := hz (by omega); subst hz) | subst hz) | (refine CallV.mk _ (hC _ _ _ (PCw.of hA)) (fun js hjs => ?_); subst hjs) | (refine CallV.mk _ (hC _ _ _ (PCw.of hF)) (fun js hjs => ?_); subst hjs) | (refine CallV.mk _ (hC _ _ _ (PCw.of h1)) (fun js hjs => ?_); subst hjs)); (try (conv => whnf))))
   exact hfin _ (ILes.refl _)
 have h2 := size_pc t hS
 have h3 := fmt_pc t hS
 have h4 := wid_pc t hS
 have hkl := hS.kids
 have hcl := cols_le hS hv
 unfold rowsV colsV at h2
 unfold linesV at h3
 unfold widesV at h4
 rw [if_pos hv, if_pos hv] at h2
 rw [if_pos hv] at h3 h4
 rw [hv] at h1
 obtain ⟨m, hm⟩ : ∃ m, colsN t = m + 1 := by
   obtain ⟨r, _, hr, _⟩ := valid_some hv
   have h0 : 0 < colsN t := by
     have := hv
     have hr2 : rowB r = true := by
       have hb2 := hv
       unfold validT at hb2
       simp only [Bool.and_eq_true, Bool.not_eq_true', List.any_eq_false] at hb2
       have h3 := hb2.2.2 r (List.mem_of_getElem? (by assumption))
       unfold badR at h3
       simp only [Bool.or_eq_true, not_or, Bool.not_eq_true', Bool.not_eq_false] at h3
       exact h3.2
     unfold rowB numB at hr2
     simp only [Bool.and_eq_true, decide_eq_true_eq] at hr2
     rw [hr]
     exact hr2.2.1.1
   exact ⟨colsN t - 1, by omega⟩
 have hrow : ∀ x ∈ t.kids, x.kids.length = m + 1 := fun x hx => by rw [← hm]; exact valid_row hv hx
 have hfa : cleanT t → ∀ x ∈ t.kids, bars (lineS (wides t) x) = m ∧ 3 * m + sumW (wides t) m ≤ (lineS (wides t) x).size ∧ (lineS (wides t) x).size ≤ 3 * m + sumW (wides t) m + (wides t).getD m 0 := fun h x hx => line_facts hv h hx m hm
 have hwl := wides_len t
 have hwle := wides_le hS
 have hsum := sumW_le (wides t) 30300 hwle
 have hlS : linesS t = t.kids.map (lineS (wides t)) := rfl
 rw [hm] at h2 hcl hwl
 rw [hlS] at h3
 generalize wides t = ws at h3 h4 hfa hwl hwle hsum
 have hmz : (zv ws).length = ws.length := List.length_map _
 have hml : (sv (t.kids.map (lineS ws))).length = t.kids.length := by unfold sv; rw [List.length_map, List.length_map]
 have hks : ∀ r ∈ t.kids, Smal r := fun r hr => hS.kid hr
 clear hS
 rw [hte] at hF h1 h2 h3 h4 ⊢
 refine PC.of_va (T := tb0) eqs_ok tb_ok rfl mixed Try.func5 rfl rfl (Nat.le_of_ble_eq_true rfl) ?_; intro Γ C WK LP fin h0 hW hC hB hR hLP hfin
 (try (conv => whnf)); (repeat ((first | refine qT ?_ | refine qF ?_ | refine qO ?_ | (with_reducible intro z hz); (first | (replace hz := hz (by omega); subst hz) | subst hz) | (refine CallV.mk _ (hC _ _ _ (PCw.of hA)) (fun js hjs => ?_); subst hjs) | (refine CallV.mk _ (hC _ _ _ (PCw.of hF)) (fun js hjs => ?_); subst hjs) | (refine CallV.mk _ (hC _ _ _ (PCw.of h1)) (fun js hjs => ?_); subst hjs) | (refine CallV.mk _ (hC _ _ _ (PCw.of h2)) (fun js hjs => ?_); subst hjs)); (try (conv => whnf))))
 refine hLP _ _ _ Nat (fun i => ⟨[(1, .ptr 0 1 0), (3, .imm (.int .i64 (t.kids.length : Nat))), (4, .imm (.int .i64 ((m + 1 : Nat) : Int))), (5, .imm (.int .i64 (i : Nat)))],[.box 1 [.imm (.int .i64 t.id.x), .imm (.int .i64 t.id.y), .imm (.int .i64 t.id.z), .imm (.int .i64 t.kind), .imm (.str t.label), .imm (.sl 4 (t.head.map wdv)), .imm (.sl 4 (t.words.map wdv)), .imm (.sl 8 (t.kids.map uv))]]⟩) (fun i => i ≤ t.kids.length ∧ ∀ x ∈ t.kids.take i, cleanX x) (fun i => t.kids.length - i) 0 ⟨Nat.zero_le _, by simp⟩ (qSL 1 rfl rfl) ?_
 rintro i ⟨hi, hpi⟩
 have hho := Nat.lt_or_ge i t.kids.length
 cases hho with
 | inl hit =>
   obtain ⟨x, hx⟩ : ∃ x, t.kids[i]? = some x := ⟨t.kids[i], List.getElem?_eq_getElem hit⟩
   have hux := uv_eq x
   have hxm := List.mem_of_getElem? hx
   have hxl := hrow x hxm
   have hsx := hks x hxm
   clear h1 h2 h3 h4 hA hF hfa
   refine (?_ : ∀ Q : Exit → AS → Prop, (∀ s', lookV s'.A 2 = .imm (.bool true) → Q .ret s') → vcS _ _ _ _ _ _ _ (loopQA _ _ _ _ _ _ Q)) _ ?_
   rotate_left
   · intro s' hs'
     exact ret_of (by decide) hs' (hfin _ (ILes.refl _))
   intro Q hR
   clear hfin
   (try (conv => whnf)); (repeat ((first | refine qT ?_ | refine qF ?_ | refine qO ?_ | (with_reducible intro z hz); (first | (replace hz := hz (by omega); subst hz) | subst hz)); (try (conv => whnf))))
   refine hLP _ _ _ Nat (fun k => ⟨[(1, .ptr 0 1 0), (3, .imm (.int .i64 (t.kids.length : Nat))), (4, .imm (.int .i64 ((m + 1 : Nat) : Int))), (5, .imm (.int .i64 (i : Nat))), (6, .imm (.int .i64 (k : Nat)))],[.box 1 [.imm (.int .i64 t.id.x), .imm (.int .i64 t.id.y), .imm (.int .i64 t.id.z), .imm (.int .i64 t.kind), .imm (.str t.label), .imm (.sl 4 (t.head.map wdv)), .imm (.sl 4 (t.words.map wdv)), .imm (.sl 8 (t.kids.map uv))]]⟩) (fun k => k ≤ m + 1 ∧ ∀ y ∈ x.kids.take k, cleanY y) (fun k => m + 1 - k) 0 ⟨Nat.zero_le _, by simp⟩ (qSL 1 rfl rfl) ?_
   rintro k ⟨hk, hpk⟩
   have hho := Nat.lt_or_ge k (m + 1)
   cases hho with
   | inl hkt =>
     obtain ⟨y, hy⟩ : ∃ y, x.kids[k]? = some y := ⟨x.kids[k]'(by omega), List.getElem?_eq_getElem (by omega)⟩
     have huy := uv_eq y
     have hym := List.mem_of_getElem? hy
     have hyw := (hsx.kid hym y (all_self y)).2
     have hmy : (y.words.map wdv).length = y.words.length := List.length_map _
     refine (?_ : ∀ Q : Exit → AS → Prop, (∀ s', lookV s'.A 2 = .imm (.bool true) → Q .ret s') → vcS _ _ _ _ _ _ _ (loopQA _ _ _ _ _ _ Q)) _ ?_
     rotate_left
     · intro s' hs'
       exact hR s' hs'
     intro Q hR
     (try (conv => whnf)); (repeat ((first | refine qT ?_ | refine qF ?_ | refine qO ?_ | (with_reducible intro z hz); (first | (replace hz := hz (by omega); subst hz) | subst hz)); (try (conv => whnf))))
     refine Idx.mk i (uv x) _ rfl (by simp [hx]) (by rw [hux]; try rfl) ?_
     (try (conv => whnf)); (repeat ((first | refine qT ?_ | refine qF ?_ | refine qO ?_ | (with_reducible intro z hz); (first | (replace hz := hz (by omega); subst hz) | subst hz)); (try (conv => whnf))))
     refine Idx.mk k (uv y) _ rfl (by simp [hy]) (by rw [huy]; try rfl) ?_
     (try (conv => whnf)); (repeat ((first | refine qT ?_ | refine qF ?_ | refine qO ?_ | (with_reducible intro z hz); (first | (replace hz := hz (by omega); subst hz) | subst hz)); (try (conv => whnf))))
     refine hLP _ _ _ Nat (fun j => ⟨[(1, .ptr 0 1 0), (3, .imm (.int .i64 (t.kids.length : Nat))), (4, .imm (.int .i64 ((m + 1 : Nat) : Int))), (5, .imm (.int .i64 (i : Nat))), (6, .imm (.int .i64 (k : Nat))), (7, .imm (.sl 4 (y.words.map wdv))), (8, .imm (.int .i64 (j : Nat)))],[.box 1 [.imm (.int .i64 t.id.x), .imm (.int .i64 t.id.y), .imm (.int .i64 t.id.z), .imm (.int .i64 t.kind), .imm (.str t.label), .imm (.sl 4 (t.head.map wdv)), .imm (.sl 4 (t.words.map wdv)), .imm (.sl 8 (t.kids.map uv))]]⟩) (fun j => j ≤ y.words.length ∧ ∀ a ∈ y.words.take j, cleanS a.text) (fun j => y.words.length - j) 0 ⟨Nat.zero_le _, by simp⟩ (qSL 1 rfl rfl) ?_
     rintro j ⟨hj, hpj⟩
     have hho := Nat.lt_or_ge j y.words.length
     cases hho with
     | inl hjt =>
       obtain ⟨a, ha⟩ : ∃ a, y.words[j]? = some a := ⟨y.words[j], List.getElem?_eq_getElem hjt⟩
       have hal := hyw.2 a (List.mem_of_getElem? ha)
       refine (?_ : ∀ Q : Exit → AS → Prop, (∀ s', lookV s'.A 2 = .imm (.bool true) → Q .ret s') → vcS _ _ _ _ _ _ _ (loopQA _ _ _ _ _ _ Q)) _ ?_
       rotate_left
       · intro s' hs'
         exact hR s' hs'
       intro Q hR
       (try (conv => whnf)); (repeat ((first | refine qT ?_ | refine qF ?_ | refine qO ?_ | (with_reducible intro z hz); (first | (replace hz := hz (by omega); subst hz) | subst hz)); (try (conv => whnf))))
       refine hLP _ _ _ Nat (fun n => ⟨[(1, .ptr 0 1 0), (3, .imm (.int .i64 (t.kids.length : Nat))), (4, .imm (.int .i64 ((m + 1 : Nat) : Int))), (5, .imm (.int .i64 (i : Nat))), (6, .imm (.int .i64 (k : Nat))), (7, .imm (.sl 4 (y.words.map wdv))), (8, .imm (.int .i64 (j : Nat))), (9, .imm (.int .i64 (n : Nat)))],[.box 1 [.imm (.int .i64 t.id.x), .imm (.int .i64 t.id.y), .imm (.int .i64 t.id.z), .imm (.int .i64 t.kind), .imm (.str t.label), .imm (.sl 4 (t.head.map wdv)), .imm (.sl 4 (t.words.map wdv)), .imm (.sl 8 (t.kids.map uv))]]⟩) (fun n => n ≤ a.text.size ∧ ∀ b ∈ a.text.data.toList.take n, b ≠ 124) (fun n => a.text.size - n) 0 ⟨Nat.zero_le _, by simp⟩ (qSL 1 rfl rfl) ?_
       rintro n ⟨hn, hpn⟩
       have hho := Nat.lt_or_ge n a.text.size
       cases hho with
       | inl hnt =>
         refine (?_ : ∀ Q : Exit → AS → Prop, (∀ s', lookV s'.A 2 = .imm (.bool true) → Q .ret s') → vcS _ _ _ _ _ _ _ (loopQA _ _ _ _ _ _ Q)) _ ?_
         rotate_left
         · intro s' hs'
           exact hR s' hs'
         intro Q hR
         obtain ⟨b, hb2⟩ : ∃ b, a.text.data[n]? = some b := ⟨a.text.data[n]'hnt, Array.getElem?_eq_getElem hnt⟩
         have hbl : a.text.data.toList[n]? = some b := by rw [Array.getElem?_toList]; exact hb2
         by_cases h124 : b = 124
         · have hbz : b.toNat = 124 := by rw [h124]; rfl
           (try (conv => whnf)); (repeat ((first | refine qT ?_ | refine qF ?_ | refine qO ?_ | (with_reducible intro z hz); (first | (replace hz := hz (by omega); subst hz) | subst hz)); (try (conv => whnf))))
           refine Idx.mk j (wdv a) _ rfl (by simp [ha]) rfl ?_
           (try (conv => whnf)); (repeat ((first | refine qT ?_ | refine qF ?_ | refine qO ?_ | (with_reducible intro z hz); (first | (replace hz := hz (by omega); subst hz) | subst hz)); (try (conv => whnf))))
           refine Idx.mk j (wdv a) _ rfl (by simp [ha]) rfl ?_
           (try (conv => whnf)); (repeat ((first | refine qT ?_ | refine qF ?_ | refine qO ?_ | (with_reducible intro z hz); (first | (replace hz := hz (by omega); subst hz) | subst hz)); (try (conv => whnf))))
           intro c z hc hz
           have hcb : c = b := by rw [Int.toNat_natCast, hb2] at hc; exact (Option.some.inj hc).symm
           subst hcb
           have hz1 : z = 124 := by omega
           subst hz1
           (try (conv => whnf)); (repeat ((first | refine qT ?_ | refine qF ?_ | refine qO ?_ | (with_reducible intro z hz); (first | (replace hz := hz (by omega); subst hz) | subst hz)); (try (conv => whnf))))
           exact hR _ rfl
         by_cases h32 : b = 32
         · have hbz : b.toNat = 32 := by rw [h32]; rfl
           (try (conv => whnf)); (repeat ((first | refine qT ?_ | refine qF ?_ | refine qO ?_ | (with_reducible intro z hz); (first | (replace hz := hz (by omega); subst hz) | subst hz)); (try (conv => whnf))))
           refine Idx.mk j (wdv a) _ rfl (by simp [ha]) rfl ?_
           (try (conv => whnf)); (repeat ((first | refine qT ?_ | refine qF ?_ | refine qO ?_ | (with_reducible intro z hz); (first | (replace hz := hz (by omega); subst hz) | subst hz)); (try (conv => whnf))))
           refine Idx.mk j (wdv a) _ rfl (by simp [ha]) rfl ?_
           (try (conv => whnf)); (repeat ((first | refine qT ?_ | refine qF ?_ | refine qO ?_ | (with_reducible intro z hz); (first | (replace hz := hz (by omega); subst hz) | subst hz)); (try (conv => whnf))))
           intro c z hc hz
           have hcb : c = b := by rw [Int.toNat_natCast, hb2] at hc; exact (Option.some.inj hc).symm
           subst hcb
           have hz1 : z = 32 := by omega
           subst hz1
           (try (conv => whnf)); (repeat ((first | refine qT ?_ | refine qF ?_ | refine qO ?_ | (with_reducible intro z hz); (first | (replace hz := hz (by omega); subst hz) | subst hz)); (try (conv => whnf))))
           refine Idx.mk j (wdv a) _ rfl (by simp [ha]) rfl ?_
           (try (conv => whnf)); (repeat ((first | refine qT ?_ | refine qF ?_ | refine qO ?_ | (with_reducible intro z hz); (first | (replace hz := hz (by omega); subst hz) | subst hz)); (try (conv => whnf))))
           intro c2 z2 hc2 hz2
           have hcb2 : c2 = c := by rw [Int.toNat_natCast, hb2] at hc2; exact (Option.some.inj hc2).symm
           subst hcb2
           have hz3 : z2 = 32 := by omega
           subst hz3
           (try (conv => whnf)); (repeat ((first | refine qT ?_ | refine qF ?_ | refine qO ?_ | (with_reducible intro z hz); (first | (replace hz := hz (by omega); subst hz) | subst hz)); (try (conv => whnf))))
           exact hR _ rfl
         have hb1 : b.toNat ≠ 124 := fun e => h124 (UInt8.toNat_inj.1 e)
         have hb3 : b.toNat ≠ 32 := fun e => h32 (UInt8.toNat_inj.1 e)
         (try (conv => whnf)); (repeat ((first | refine qT ?_ | refine qF ?_ | refine qO ?_ | (with_reducible intro z hz); (first | (replace hz := hz (by omega); subst hz) | subst hz)); (try (conv => whnf))))
         refine Idx.mk j (wdv a) _ rfl (by simp [ha]) rfl ?_
         (try (conv => whnf)); (repeat ((first | refine qT ?_ | refine qF ?_ | refine qO ?_ | (with_reducible intro z hz); (first | (replace hz := hz (by omega); subst hz) | subst hz)); (try (conv => whnf))))
         refine Idx.mk j (wdv a) _ rfl (by simp [ha]) rfl ?_
         (try (conv => whnf)); (repeat ((first | refine qT ?_ | refine qF ?_ | refine qO ?_ | (with_reducible intro z hz); (first | (replace hz := hz (by omega); subst hz) | subst hz)); (try (conv => whnf))))
         intro c z hc hz
         have hcb : c = b := by rw [Int.toNat_natCast, hb2] at hc; exact (Option.some.inj hc).symm
         subst hcb
         (try (conv => whnf)); (repeat ((first | refine qT ?_ | refine qF ?_ | refine qO ?_ | (with_reducible intro z hz); (first | (replace hz := hz (by omega); subst hz) | subst hz)); (try (conv => whnf))))
         refine Idx.mk j (wdv a) _ rfl (by simp [ha]) rfl ?_
         (try (conv => whnf)); (repeat ((first | refine qT ?_ | refine qF ?_ | refine qO ?_ | (with_reducible intro z hz); (first | (replace hz := hz (by omega); subst hz) | subst hz)); (try (conv => whnf))))
         intro c2 z2 hc2 hz2
         have hcb2 : c2 = c := by rw [Int.toNat_natCast, hb2] at hc2; exact (Option.some.inj hc2).symm
         subst hcb2
         (try (conv => whnf)); (repeat ((first | refine qT ?_ | refine qF ?_ | refine qO ?_ | (with_reducible intro z hz); (first | (replace hz := hz (by omega); subst hz) | subst hz)); (try (conv => whnf))))
         exact ⟨n + 1, ⟨by omega, all_take hpn hbl h124⟩, by dsimp only; omega, (qSL 1 rfl rfl)⟩
       | inr hng =>
         have hnn : a.text.data.toList.length ≤ n := by rw [← size_list]; exact hng
         rw [List.take_of_length_le hnn] at hpn
         (try (conv => whnf)); (repeat ((first | refine qT ?_ | refine qF ?_ | refine qO ?_ | (with_reducible intro z hz); (first | (replace hz := hz (by omega); subst hz) | subst hz)); (try (conv => whnf))))
         refine Idx.mk j (wdv a) _ rfl (by simp [ha]) rfl ?_
         (try (conv => whnf)); (repeat ((first | refine qT ?_ | refine qF ?_ | refine qO ?_ | (with_reducible intro z hz); (first | (replace hz := hz (by omega); subst hz) | subst hz)); (try (conv => whnf))))
         exact ⟨j + 1, ⟨by omega, all_take hpj ha hpn⟩, by dsimp only; omega, (qSL 1 rfl rfl)⟩
     | inr hjg =>
       have hjn : y.words.length = j := by omega
       rw [← hjn, List.take_length] at hpj
       (try (conv => whnf)); (repeat ((first | refine qT ?_ | refine qF ?_ | refine qO ?_ | (with_reducible intro z hz); (first | (replace hz := hz (by omega); subst hz) | subst hz)); (try (conv => whnf))))
       exact ⟨k + 1, ⟨by omega, all_take hpk hy hpj⟩, by dsimp only; omega, (qSL 1 rfl rfl)⟩
   | inr hkg =>
     have hkn : x.kids.length = k := by omega
     rw [← hkn, List.take_length] at hpk
     (try (conv => whnf)); (repeat ((first | refine qT ?_ | refine qF ?_ | refine qO ?_ | (with_reducible intro z hz); (first | (replace hz := hz (by omega); subst hz) | subst hz)); (try (conv => whnf))))
     exact ⟨i + 1, ⟨by omega, all_take hpi hx hpk⟩, by dsimp only; omega, (qSL 1 rfl rfl)⟩
 | inr hig =>
   have hin : t.kids.length = i := by omega
   rw [← hin, List.take_length] at hpi
   have hfx := hfa hpi
   clear hfa hpi
   (try (conv => whnf)); (repeat ((first | refine qT ?_ | refine qF ?_ | refine qO ?_ | (with_reducible intro z hz); (first | (replace hz := hz (by omega); subst hz) | subst hz) | (refine CallV.mk _ (hC _ _ _ (PCw.of h3)) (fun js hjs => ?_); subst hjs) | (refine CallV.mk _ (hC _ _ _ (PCw.of h4)) (fun js hjs => ?_); subst hjs)); (try (conv => whnf))))
   have hwa : ∀ k, k < m + 1 → ws[k]? = some (ws.getD k 0) := fun k hk => by
     rw [List.getD_eq_getElem?_getD, List.getElem?_eq_getElem (by omega)]
     rfl
   have hs0 : sumW ws 0 = 0 := rfl
   refine hLP _ _ _ Nat (fun k => ⟨[(1, .ptr 0 1 0), (3, .imm (.int .i64 (t.kids.length : Nat))), (4, .imm (.int .i64 ((m + 1 : Nat) : Int))), (10, .imm (.sl 1 (sv (t.kids.map (lineS ws))))), (11, .imm (.sl 1 (zv ws))), (12, .imm (.int .i64 ((3 * m + sumW ws k : Nat) : Int))), (13, .imm (.int .i64 (k : Nat)))],[.box 1 [.imm (.int .i64 t.id.x), .imm (.int .i64 t.id.y), .imm (.int .i64 t.id.z), .imm (.int .i64 t.kind), .imm (.str t.label), .imm (.sl 4 (t.head.map wdv)), .imm (.sl 4 (t.words.map wdv)), .imm (.sl 8 (t.kids.map uv))]]⟩) (fun k => k ≤ m) (fun k => m - k) 0 (Nat.zero_le _) (qSL 1 rfl rfl) ?_
   intro k hk
   have hho := Nat.lt_or_ge k m
   cases hho with
   | inl hkt =>
     have hsk : sumW ws (k + 1) = sumW ws k + ws.getD k 0 := rfl
     have hs1 := hsum k
     have hw1 := hwle k
     have hwk := hwa k (by omega)
     generalize ws.getD k 0 = w at hsk hw1 hwk
     refine (?_ : ∀ Q : Exit → AS → Prop, vcS _ _ _ _ _ _ _ (loopQA _ _ _ _ _ _ Q)) _
     intro Q
     (try (conv => whnf)); (repeat ((first | refine qT ?_ | refine qF ?_ | refine qO ?_ | (with_reducible intro z hz); (first | (replace hz := hz (by omega); subst hz) | subst hz)); (try (conv => whnf))))
     refine Idx.mk k (.int .i64 (w : Nat)) _ rfl (by simp [zv, hwk]) rfl ?_
     (try (conv => whnf)); (repeat ((first | refine qT ?_ | refine qF ?_ | refine qO ?_ | (with_reducible intro z hz); (first | (replace hz := hz (by omega); subst hz) | subst hz)); (try (conv => whnf))))
     exact ⟨k + 1, by omega, by dsimp only; omega, (qSL 1 rfl rfl)⟩
   | inr hkg =>
     have hkm : k = m := by omega
     have hsm : sumW ws k = sumW ws m := by rw [hkm]
     have hs1 := hsum m
     have hw1 := hwle m
     have hwk := hwa m (by omega)
     generalize sumW ws m = S at hfx hsm hs1
     generalize ws.getD m 0 = w at hfx hw1 hwk
     (try (conv => whnf)); (repeat ((first | refine qT ?_ | refine qF ?_ | refine qO ?_ | (with_reducible intro z hz); (first | (replace hz := hz (by omega); subst hz) | subst hz)); (try (conv => whnf))))
     refine hLP _ _ _ Nat (fun i => ⟨[(1, .ptr 0 1 0), (3, .imm (.int .i64 (t.kids.length : Nat))), (4, .imm (.int .i64 ((m + 1 : Nat) : Int))), (10, .imm (.sl 1 (sv (t.kids.map (lineS ws))))), (11, .imm (.sl 1 (zv ws))), (12, .imm (.int .i64 ((3 * m + S : Nat) : Int))), (14, .imm (.int .i64 (i : Nat)))],[.box 1 [.imm (.int .i64 t.id.x), .imm (.int .i64 t.id.y), .imm (.int .i64 t.id.z), .imm (.int .i64 t.kind), .imm (.str t.label), .imm (.sl 4 (t.head.map wdv)), .imm (.sl 4 (t.words.map wdv)), .imm (.sl 8 (t.kids.map uv))]]⟩) (fun i => i ≤ t.kids.length) (fun i => t.kids.length - i) 0 (Nat.zero_le _) (qSL 1 rfl rfl) ?_
     intro i hi
     have hho := Nat.lt_or_ge i t.kids.length
     cases hho with
     | inl hit =>
       obtain ⟨x, hx⟩ : ∃ x, t.kids[i]? = some x := ⟨t.kids[i], List.getElem?_eq_getElem hit⟩
       obtain ⟨f1, f2, f3⟩ := hfx x (List.mem_of_getElem? hx)
       have hxs : (sv (t.kids.map (lineS ws)))[i]? = some (.str (lineS ws x)) := by simp [sv, hx]
       generalize lineS ws x = s at f1 f2 f3 hxs
       refine (?_ : ∀ Q : Exit → AS → Prop, vcS _ _ _ _ _ _ _ (loopQA _ _ _ _ _ _ Q)) _
       intro Q
       obtain ⟨cn, hc0, hcs, hcm, hcl2⟩ := cnt_ex s m f1
       (try (conv => whnf)); (repeat ((first | refine qT ?_ | refine qF ?_ | refine qO ?_ | (with_reducible intro z hz); (first | (replace hz := hz (by omega); subst hz) | subst hz)); (try (conv => whnf))))
       refine hLP _ _ _ Nat (fun k => ⟨[(1, .ptr 0 1 0), (3, .imm (.int .i64 (t.kids.length : Nat))), (4, .imm (.int .i64 ((m + 1 : Nat) : Int))), (10, .imm (.sl 1 (sv (t.kids.map (lineS ws))))), (11, .imm (.sl 1 (zv ws))), (12, .imm (.int .i64 ((3 * m + S : Nat) : Int))), (14, .imm (.int .i64 (i : Nat))), (15, .imm (.int .i64 (cn k : Nat))), (16, .imm (.int .i64 (k : Nat)))],[.box 1 [.imm (.int .i64 t.id.x), .imm (.int .i64 t.id.y), .imm (.int .i64 t.id.z), .imm (.int .i64 t.kind), .imm (.str t.label), .imm (.sl 4 (t.head.map wdv)), .imm (.sl 4 (t.words.map wdv)), .imm (.sl 8 (t.kids.map uv))]]⟩) (fun k => k ≤ s.size) (fun k => s.size - k) 0 (Nat.zero_le _) (qSL 1 rfl rfl (hE := by (repeat ((conv => whnf); first | exact trivial | refine And.intro (by first | exact WkOne.any | exact WkOne.eq (by with_reducible rfl) rfl | exact WkOne.eq (congrArg (fun z => PV.imm (IV.int IntKind.i64 z)) (by first | omega | (simp [hc0]; done) | (simp [hc0]; omega))) rfl | exact WkOne.eq (by first | (simp [hc0]; done) | fail) rfl | exact WkOne.eq rfl rfl | exact WkOne.le rfl (ILe.nil _)) ?_)))) ?_
       intro k hk
       have hck := hcl2 k
       have hho := Nat.lt_or_ge k s.size
       cases hho with
       | inl hkt =>
         refine (?_ : ∀ Q : Exit → AS → Prop, vcS _ _ _ _ _ _ _ (loopQA _ _ _ _ _ _ Q)) _
         intro Q
         obtain ⟨b, hb2⟩ : ∃ b, s.data[k]? = some b := ⟨s.data[k]'hkt, Array.getElem?_eq_getElem hkt⟩
         have hcsk := hcs k b hb2
         by_cases h124 : b = 124
         · have hbz : b.toNat = 124 := by rw [h124]; rfl
           rw [if_pos h124] at hcsk
           (try (conv => whnf)); (repeat ((first | refine qT ?_ | refine qF ?_ | refine qO ?_ | (with_reducible intro z hz); (first | (replace hz := hz (by omega); subst hz) | subst hz)); (try (conv => whnf))))
           refine Idx.mk i (.str s) _ rfl hxs rfl ?_
           (try (conv => whnf)); (repeat ((first | refine qT ?_ | refine qF ?_ | refine qO ?_ | (with_reducible intro z hz); (first | (replace hz := hz (by omega); subst hz) | subst hz)); (try (conv => whnf))))
           refine Idx.mk i (.str s) _ rfl hxs rfl ?_
           (try (conv => whnf)); (repeat ((first | refine qT ?_ | refine qF ?_ | refine qO ?_ | (with_reducible intro z hz); (first | (replace hz := hz (by omega); subst hz) | subst hz)); (try (conv => whnf))))
           intro c z hc hz
           have hcb : c = b := by rw [Int.toNat_natCast, hb2] at hc; exact (Option.some.inj hc).symm
           subst hcb
           have hz1 : z = 124 := by omega
           subst hz1
           (try (conv => whnf)); (repeat ((first | refine qT ?_ | refine qF ?_ | refine qO ?_ | (with_reducible intro z hz); (first | (replace hz := hz (by omega); subst hz) | subst hz)); (try (conv => whnf))))
           exact ⟨k + 1, by omega, by dsimp only; omega, (qSL 1 rfl rfl (hE := by (repeat ((conv => whnf); first | exact trivial | refine And.intro (by first | exact WkOne.any | exact WkOne.eq (by with_reducible rfl) rfl | exact WkOne.eq (congrArg (fun z => PV.imm (IV.int IntKind.i64 z)) (by first | omega | (simp [hcsk]; done) | (simp [hcsk]; omega))) rfl | exact WkOne.eq (by first | (simp [hcsk]; done) | fail) rfl | exact WkOne.eq rfl rfl | exact WkOne.le rfl (ILe.nil _)) ?_))))⟩
         have hb1 : b.toNat ≠ 124 := fun e => h124 (UInt8.toNat_inj.1 e)
         rw [if_neg h124] at hcsk
         (try (conv => whnf)); (repeat ((first | refine qT ?_ | refine qF ?_ | refine qO ?_ | (with_reducible intro z hz); (first | (replace hz := hz (by omega); subst hz) | subst hz)); (try (conv => whnf))))
         refine Idx.mk i (.str s) _ rfl hxs rfl ?_
         (try (conv => whnf)); (repeat ((first | refine qT ?_ | refine qF ?_ | refine qO ?_ | (with_reducible intro z hz); (first | (replace hz := hz (by omega); subst hz) | subst hz)); (try (conv => whnf))))
         refine Idx.mk i (.str s) _ rfl hxs rfl ?_
         (try (conv => whnf)); (repeat ((first | refine qT ?_ | refine qF ?_ | refine qO ?_ | (with_reducible intro z hz); (first | (replace hz := hz (by omega); subst hz) | subst hz)); (try (conv => whnf))))
         intro c z hc hz
         have hcb : c = b := by rw [Int.toNat_natCast, hb2] at hc; exact (Option.some.inj hc).symm
         subst hcb
         have hzn : z ≠ 124 := by omega
         (try (conv => whnf)); (repeat ((first | refine qT ?_ | refine qF ?_ | refine qO ?_ | (with_reducible intro z hz); (first | (replace hz := hz (by omega); subst hz) | subst hz)); (try (conv => whnf))))
         exact ⟨k + 1, by omega, by dsimp only; omega, (qSL 1 rfl rfl (hE := by (repeat ((conv => whnf); first | exact trivial | refine And.intro (by first | exact WkOne.any | exact WkOne.eq (by with_reducible rfl) rfl | exact WkOne.eq (congrArg (fun z => PV.imm (IV.int IntKind.i64 z)) (by first | omega | (simp [hcsk]; done) | (simp [hcsk]; omega))) rfl | exact WkOne.eq (by first | (simp [hcsk]; done) | fail) rfl | exact WkOne.eq rfl rfl | exact WkOne.le rfl (ILe.nil _)) ?_))))⟩
       | inr hkg =>
         have hks : k = s.size := by omega
         have hcm2 : cn k = m := by rw [hks]; exact hcm
         (try (conv => whnf)); (repeat ((first | refine qT ?_ | refine qF ?_ | refine qO ?_ | (with_reducible intro z hz); (first | (replace hz := hz (by omega); subst hz) | subst hz)); (try (conv => whnf))))
         refine Idx.mk i (.str s) _ rfl hxs rfl ?_
         (try (conv => whnf)); (repeat ((first | refine qT ?_ | refine qF ?_ | refine qO ?_ | (with_reducible intro z hz); (first | (replace hz := hz (by omega); subst hz) | subst hz)); (try (conv => whnf))))
         refine Idx.mk i (.str s) _ rfl hxs rfl ?_
         (try (conv => whnf)); (repeat ((first | refine qT ?_ | refine qF ?_ | refine qO ?_ | (with_reducible intro z hz); (first | (replace hz := hz (by omega); subst hz) | subst hz)); (try (conv => whnf))))
         refine Idx.mk i (.str s) _ rfl hxs rfl ?_
         (try (conv => whnf)); (repeat ((first | refine qT ?_ | refine qF ?_ | refine qO ?_ | (with_reducible intro z hz); (first | (replace hz := hz (by omega); subst hz) | subst hz)); (try (conv => whnf))))
         refine Idx.mk m (.int .i64 (w : Nat)) _ (by omega) (by simp [zv, hwk]) rfl ?_
         (try (conv => whnf)); (repeat ((first | refine qT ?_ | refine qF ?_ | refine qO ?_ | (with_reducible intro z hz); (first | (replace hz := hz (by omega); subst hz) | subst hz)); (try (conv => whnf))))
         exact ⟨i + 1, by omega, by dsimp only; omega, (qSL 1 rfl rfl)⟩
     | inr hig2 =>
       (try (conv => whnf)); (repeat ((first | refine qT ?_ | refine qF ?_ | refine qO ?_ | (with_reducible intro z hz); (first | (replace hz := hz (by omega); subst hz) | subst hz)); (try (conv => whnf))))
       exact hfin _ (ILes.refl _)
end Go.Proofs.Ytaciihgejkhlnaa.Pb
