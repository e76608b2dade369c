/-
  Editing from the last occurrence to the first gives the texts of editing all.
-/
import Derived.Test.YtcgdanbmgeoneaaWWp
namespace Go.Proofs.Ytcgdanbmgeoneaa.Pw
open Go Go.Pv Go.RowKit Go.Proofs.Ytcgdanbmgeoneaa.Pu Go.Proofs.Ytcgdanbmgeoneaa.Pb
set_option linter.unusedSimpArgs false
open Lab Lcs Go.Proofs.Ytcgdanbmgeoneaa
set_option maxRecDepth 10000
def zOf (b : Bool) (P t : Nat) : Nat := bif b then t + P else t
def drOf (b : Bool) (P : Nat) : Nat := bif b then 0 else P
def doA (b : Bool) (w : List Wd) (p nw : List Str) (nth : Int) : List Wd × Int := bif b then insW w p nw nth 7 1 else repA w p nw nth 7 1
theorem z_dr (b : Bool) (P t : Nat) : zOf b P t + drOf b P = t + P := by cases b <;> rfl
theorem doA_eq {b : Bool} {w : List Wd} {p nw : List Str} {nth : Int} (hp : 0 < p.length) (hn : 0 < nw.length) (h0 : 0 ≤ nth) :
   doA b w p nw nth = if (chs (occs (txts w) p) nth).length = 0 then ([], 4) else heldW (spl w (drOf b p.length) nw 7 1 0 0 ((chs (occs (txts w) p) nth).map (zOf b p.length))) := by
 cases b
 · show repA w p nw nth 7 1 = _
   unfold repA
   rw [if_neg (by omega)]
   have e : (chs (occs (txts w) p) nth).map (zOf false p.length) = chs (occs (txts w) p) nth := List.map_id' _
   rw [e]
   rfl
 · show insW w p nw nth 7 1 = _
   unfold insW
   rw [if_neg (by omega), if_neg (by omega)]
   rfl
theorem ok_z {N P : Nat} {l : List Nat} (b : Bool) (h : OkAt N P 0 l) : OkAt N (drOf b P) 0 (l.map (zOf b P)) := by
 cases b
 · have e : l.map (zOf false P) = l := List.map_id' _
   rw [e]
   exact h
 · exact ok_up h
theorem txts_mkW (a i : Int) : ∀ (f : Int) (l : List Str), txts (mkW a i f l) = l
 | _, [] => rfl
 | f, s :: r => by
   show s :: txts (mkW a i (f + 1) r) = _
   rw [txts_mkW a i (f + 1) r]
theorem txts_app (a b : List Wd) : txts (a ++ b) = txts a ++ txts b := List.map_append
def endAt (O : List Nat) (P : Nat) : Nat → Nat
 | 0 => 0
 | k + 1 => (O[k]?).getD 0 + P
theorem ok_adj {N P : Nat} : ∀ {l : List Nat} {d : Nat}, OkAt N P d l → ∀ (j : Nat) {x t : Nat}, l[j]? = some x → l[j + 1]? = some t → x + P ≤ t
 | [], _, _, j, x, t, hx, _ => by simp at hx
 | a :: r, d, ⟨h1, h2, h3⟩, 0, x, t, hx, ht => by
   simp only [List.getElem?_cons_zero, Option.some.injEq, List.getElem?_cons_succ] at hx ht
   have := (ok_mem h3 t (List.mem_of_getElem? ht)).1
   omega
 | a :: r, d, ⟨h1, h2, h3⟩, j + 1, x, t, hx, ht => by
   simp only [List.getElem?_cons_succ] at hx ht
   exact ok_adj h3 j hx ht
theorem end_le {N P : Nat} {O : List Nat} (h : OkAt N P 0 O) {k t : Nat} (ht : O[k]? = some t) : endAt O P k ≤ t := by
 cases k with
 | zero => exact Nat.zero_le _
 | succ j =>
   have hlt := (List.getElem?_eq_some_iff.1 ht).1
   obtain ⟨x, hx⟩ : ∃ x, O[j]? = some x := ⟨O[j]'(by omega), List.getElem?_eq_getElem (by omega)⟩
   show (O[j]?).getD 0 + P ≤ t
   rw [hx]
   exact ok_adj h j hx ht
def InvO (b : Bool) (w : List Wd) (p nw : List Str) (k : Nat) (one : List Wd) : Prop :=
 k ≤ (occs (txts w) p).length ∧ one.length ≤ 60 + 3 * ((occs (txts w) p).length - k) ∧
 ∃ R, one = w.take (endAt (occs (txts w) p) p.length k) ++ R ∧ txts R = txts (spl w (drOf b p.length) nw 7 1 k (endAt (occs (txts w) p) p.length k) (((occs (txts w) p).map (zOf b p.length)).drop k))
theorem occ_ok {w : List Wd} {p : List Str} (hp : 0 < p.length) : OkAt w.length p.length 0 (occs (txts w) p) := by
 have h := ok_occs (w := w) hp 0
 rw [show chs (occs (txts w) p) 0 = occs (txts w) p by unfold chs; rw [if_pos rfl]] at h
 exact h
theorem inv_init (b : Bool) {w : List Wd} {p nw : List Str} (hw : w.length ≤ 60) : InvO b w p nw (occs (txts w) p).length w := by
 refine ⟨Nat.le_refl _, by omega, w.drop (endAt (occs (txts w) p) p.length (occs (txts w) p).length), (List.take_append_drop _ _).symm, ?_⟩
 rw [show ((occs (txts w) p).map (zOf b p.length)).drop (occs (txts w) p).length = [] from List.drop_of_length_le (by rw [List.length_map]; exact Nat.le_refl _)]
 rfl
theorem inv_done {b : Bool} {w one : List Wd} {p nw : List Str} (h : InvO b w p nw 0 one) : txts one = txts (spl w (drOf b p.length) nw 7 1 0 0 ((occs (txts w) p).map (zOf b p.length))) := by
 obtain ⟨_, _, R, h1, h2⟩ := h
 rw [h1]
 exact h2
theorem inv_step {b : Bool} {w one : List Wd} {p nw : List Str} {k : Nat} (hp : 0 < p.length) (hn : 0 < nw.length) (hn3 : nw.length ≤ 3) (hw : w.length ≤ 60) (h : InvO b w p nw (k + 1) one) :
   ∃ T, doA b one p nw (((k + 1 : Nat) : Int)) = (T, 0) ∧ InvO b w p nw k T := by
 obtain ⟨h1, h2, R, h3, h4⟩ := h
 have hO := occ_ok (w := w) hp
 have hol := occs_len (txts w) p
 rw [txts_len] at hol
 obtain ⟨t, ht⟩ : ∃ t, (occs (txts w) p)[k]? = some t := ⟨(occs (txts w) p)[k]'(by omega), List.getElem?_eq_getElem (by omega)⟩
 have hend := (ok_mem hO t (List.mem_of_getElem? ht)).2
 have he : endAt (occs (txts w) p) p.length (k + 1) = t + p.length := by show ((occs (txts w) p)[k]?).getD 0 + p.length = _; rw [ht]; rfl
 rw [he] at h3 h4
 have hc := chs_kth (R := R) hp ht
 rw [← h3] at hc
 have hle := end_le hO ht
 have hzd := z_dr b p.length t
 have hzt : t ≤ zOf b p.length t := by cases b <;> simp [zOf]
 generalize hz : zOf b p.length t = z at hzd hzt
 have htl : (w.take (t + p.length)).length = t + p.length := by rw [List.length_take]; omega
 have e1 : one.take z = w.take z := by
   rw [h3, List.take_append_of_le_length (by omega), List.take_take, Nat.min_eq_left (by omega)]
 have e2 : one.drop (z + drOf b p.length) = R := by
   rw [h3, hzd, List.drop_append, List.drop_of_length_le (by omega), htl, Nat.sub_self, List.nil_append, List.drop_zero]
 have hs : spl one (drOf b p.length) nw 7 1 0 0 [z] = w.take z ++ mkW 7 1 0 nw ++ R := by
   show (one.drop 0).take (z - 0) ++ mkW 7 1 (((0 : Nat) : Int) * ((nw.length : Nat) : Int)) nw ++ one.drop (z + drOf b p.length) = _
   rw [List.drop_zero, Nat.sub_zero, e1, e2, show ((0 : Nat) : Int) * ((nw.length : Nat) : Int) = 0 by simp]
 have hol2 : one.length = t + p.length + R.length := by rw [h3, List.length_append, htl]
 have hlen : (w.take z ++ mkW 7 1 0 nw ++ R).length ≤ 60 + 3 * ((occs (txts w) p).length - k) := by
   rw [List.length_append, List.length_append, mkW_len, List.length_take]
   omega
 refine ⟨w.take z ++ mkW 7 1 0 nw ++ R, ?_, by omega, hlen, (w.drop (endAt (occs (txts w) p) p.length k)).take (z - endAt (occs (txts w) p) p.length k) ++ mkW 7 1 0 nw ++ R, ?_, ?_⟩
 · rw [doA_eq hp hn (by omega), hc, if_neg (by simp), List.map_cons, List.map_nil, hz, hs]
   unfold heldW
   rw [if_neg (by omega)]
 · rw [← List.append_assoc, ← List.append_assoc, ← List.take_add, show endAt (occs (txts w) p) p.length k + (z - endAt (occs (txts w) p) p.length k) = z by omega]
 · have hd : ((occs (txts w) p).map (zOf b p.length)).drop k = z :: ((occs (txts w) p).map (zOf b p.length)).drop (k + 1) := by
     rw [List.drop_eq_getElem_cons (by rw [List.length_map]; omega), List.getElem_map, (List.getElem?_eq_some_iff.1 ht).2, hz]
   rw [hd]
   show _ = txts ((w.drop _).take (z - _) ++ mkW 7 1 _ nw ++ spl w (drOf b p.length) nw 7 1 (k + 1) (z + drOf b p.length) _)
   rw [hzd, txts_app, txts_app, txts_app, txts_app, txts_mkW, txts_mkW, h4]
theorem do_miss {b : Bool} {w : List Wd} {p nw : List Str} (hp : 0 < p.length) (hn : 0 < nw.length) : doA b w p nw (((occs (txts w) p).length : Int) + 1) = ([], 4) := by
 rw [doA_eq hp hn (by omega), chs_miss (by omega) (by omega)]
 exact if_pos rfl
theorem do_none {b : Bool} {w : List Wd} {p nw : List Str} (hp : 0 < p.length) (hn : 0 < nw.length) (h : (occs (txts w) p).length = 0) : doA b w p nw 0 = ([], 4) := by
 have e : chs (occs (txts w) p) 0 = occs (txts w) p := by unfold chs; rw [if_pos rfl]
 rw [doA_eq hp hn (by omega), e, if_pos h]
theorem do_all {b : Bool} {w : List Wd} {p nw : List Str} (hp : 0 < p.length) (hn : 0 < nw.length) (hn3 : nw.length ≤ 3) (hw : w.length ≤ 60) (h : (occs (txts w) p).length ≠ 0) :
   doA b w p nw 0 = (spl w (drOf b p.length) nw 7 1 0 0 ((occs (txts w) p).map (zOf b p.length)), 0) ∧ (spl w (drOf b p.length) nw 7 1 0 0 ((occs (txts w) p).map (zOf b p.length))).length ≤ 240 := by
 have e : chs (occs (txts w) p) 0 = occs (txts w) p := by unfold chs; rw [if_pos rfl]
 have hol := occs_len (txts w) p
 rw [txts_len] at hol
 have hl := spl_len (nw := nw) (a := 7) (i := 1) (k := 0) (ok_z b (occ_ok (w := w) hp))
 rw [List.length_map] at hl
 have hm : (((occs (txts w) p).length : Nat) : Int) * (((nw.length : Nat) : Int) - ((drOf b p.length : Nat) : Int)) ≤ 60 * 3 := by
   have e1 : (0 : Int) ≤ (((occs (txts w) p).length : Nat) : Int) ∧ (((occs (txts w) p).length : Nat) : Int) ≤ 60 := by omega
   have e2 : ((nw.length : Nat) : Int) - ((drOf b p.length : Nat) : Int) ≤ 3 := by omega
   have := Int.mul_le_mul_of_nonneg_left e2 e1.1
   omega
 refine ⟨?_, by omega⟩
 rw [doA_eq hp hn (by omega), e, if_neg h]
 unfold heldW
 rw [if_neg (by omega)]
end Go.Proofs.Ytcgdanbmgeoneaa.Pw
