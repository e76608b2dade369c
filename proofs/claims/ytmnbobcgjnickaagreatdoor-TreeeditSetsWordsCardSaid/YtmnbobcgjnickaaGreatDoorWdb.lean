/-
  Words: the reference's Texts, row and short; unmarked; equality of rows.
-/
import Derived.Test.YtmnbobcgjnickaaGreatDoorWds
namespace Go.Proofs.YtmnbobcgjnickaaGreatDoor
open Go.RowKit (wrap32 wrap64 intOf Hid Below)
open Lab Lcs
set_option maxHeartbeats 4000000 in
set_option maxRecDepth 100000 in
theorem texts_any (L : List Wd) (n c : Nat) (A : Option Addr) (w : World) (hl : Wds w A n c L) (hn : n ≤ 1000000) :
   Calls Tryz.prog 125 #[.slice A n c] w fun e w' => (∃ A' c', e = .returned (.slice A' n c') ∧ Sq w' A' n c' (textsOf L)) ∧ Below w.heap.size w w' := by
 have HL := Lib.hid hl
 have HLn := Lib.hid hl.1
 obtain ⟨i0, hi, hz0, hz1, hz2⟩ := info_parts info_str
 have hb0 := alloc_below w (.cells #[] 9)
 clear hl
 go_enter Tryz.func125, Tryz.ntmps125
 go_wp2
 go_loopw [3, 4] (fun v i wr => ∃ (k cc : Nat) (Av : Option Addr), k ≤ n ∧ i = .int .i64 k ∧ v = .slice Av k cc ∧ wr.ownsRow w.heap.size 9 1 (.slice Av k cc) k (sv (textsOf (L.take k))) ∧ Below w.heap.size w wr) (fun _ i _ => n - (intOf i).toNat)
 case atStart => exact ⟨0, 0, _, Nat.zero_le _, rfl, rfl, own_empty _ _ _, hb0⟩
 case round =>
   rename World => wr
   obtain ⟨k, cc, Av, hk, rfl, rfl, hown, hbr⟩ := hrel
   have hbz := hbr.size
   have HO := Lib.hid hown
   have HB := Lib.hid hbr
   clear hown
   by_cases hlt : k < n
   · obtain ⟨b, off, a, rfl, hblt, ha, c0, c1, c2, c3⟩ := HL.out.at_ hbr hlt
     have HT := Lib.hid (texts_take ha)
     have HB2 := Lib.hid (alloc_below wr (.cells #[.string a.text] 9))
     clear ha hbr
     go_wp2_with (at_builtin; refine wpList_append_own_at _ rfl _ _ 123 rfl w.heap.size 9 i0 (.string ⟨#[]⟩) 1 16 Tryz.underlying123 hi hz0 hz1 hz2 rfl (by decide) _ _ _ rfl (own_below HO.out HB2.out) ⟨wr.heap.size, 0, none⟩ 1 1 [.string a.text] rfl rfl ?c1 ?c2 ?c3 ?c4 ?c5 ?_)
     case c1 => exact fun j u hj => new_row _ _ (by simp) [.string a.text] _ j u hj
     case c2 => intro u hu; simp at hu; subst hu; rfl
     case c3 => unfold maxLen; omega
     case c4 => omega
     case c5 => simp; omega
     intro v' w3 hown' hgrow _ _
     obtain ⟨A', c', rfl, _⟩ := own_slice hown'
     have HO' := Lib.hid hown'
     have HB3 := Lib.hid (grown_below (own_below HO.out HB2.out) (HB.out.trans (HB2.out.mono hbz)) (Nat.le_trans hbz HB2.out.size) hgrow)
     clear hown' hgrow
     go_wp2
     go_roundw
     case rel => exact ⟨k + 1, c', A', by omega, by go_num, rfl, by rw [HT.out, sv_snoc]; exact HO'.out, HB3.out⟩
     case measure => simp [intOf]; omega
   · obtain rfl : k = n := by omega
     have hown := HO.out
     rw [List.take_of_length_le (by rw [HLn.out]; exact Nat.le_refl _)] at hown
     have HS := Lib.hid (Sq.of_own hown (by omega))
     clear hown
     go_wp2
     go_ret
     exact ⟨⟨_, _, rfl, HS.out⟩, HB.out⟩
set_option maxHeartbeats 4000000 in
set_option maxRecDepth 100000 in
theorem row_any (L : List Wd) (n c : Nat) (A : Option Addr) (w : World) (hl : Wds w A n c L) (hn : n ≤ 1000000) :
   Calls Tryz.prog 117 #[.slice A n c] w fun e w' => e = .returned (.bool (rowB L)) ∧ Below w.heap.size w w' := by
 have HTx := Lib.hid (texts_any L n c A w hl hn)
 have HLn := Lib.hid hl.1
 clear hl
 by_cases h : n ≤ 256
 · go_enter Tryz.func117, Tryz.ntmps117
   go_wp2_with fail
   with_reducible refine (HTx.out).mono ?_
   rintro e w1 ⟨⟨A', c', rfl, hs⟩, hb1⟩
   have HM := Lib.hid (wmay_any (textsOf L) n c' A' w1 hs)
   clear hs
   go_wp2_with (go_at_call 124; ((with_reducible refine (HM.out).mono ?_); rintro e w2 ⟨rfl, rfl⟩))
   go_ret
   exact ⟨rfl, hb1⟩
 · have HE : Hid (rowB L = false) := Lib.hid (may_many (by unfold textsOf; rw [List.length_map, HLn.out]; omega))
   go_enter Tryz.func117, Tryz.ntmps117
   go_wp2_with fail
   go_ret
   exact ⟨ret_bool HE.out.symm, Below.refl _ _⟩
def shortB (L : List Wd) : Bool := L.all (fun a => decide (a.text.size ≤ 100)) && decide (L.length ≤ 300)
theorem all_mem {L : List Wd} {k : Nat} {a : Wd} {p : Wd → Bool} (h : L[k]? = some a) (hp : p a = false) : L.all p = false := by
 rw [List.all_eq_false]
 exact ⟨a, List.mem_of_getElem? h, by rw [hp]; decide⟩
theorem all_take {L : List Wd} {k : Nat} {a : Wd} {p : Wd → Bool} (h : L[k]? = some a) (h1 : (L.take k).all p = true) (hp : p a = true) : (L.take (k + 1)).all p = true := by
 obtain ⟨hk, he⟩ := List.getElem?_eq_some_iff.1 h
 rw [List.take_succ_eq_append_getElem hk, List.all_append, h1, he]
 simp [hp]
set_option maxHeartbeats 4000000 in
set_option maxRecDepth 100000 in
theorem short_any (L : List Wd) (n c : Nat) (A : Option Addr) (w : World) (hl : Wds w A n c L) :
   Calls Tryz.prog 59 #[.slice A n c] w fun e w' => e = .returned (.bool (shortB L)) ∧ w = w' := by
 have HL := Lib.hid hl
 have HLn := Lib.hid hl.1
 have hnc := hl.2.1
 have hc := hl.2.2.1
 clear hl
 go_enter Tryz.func59, Tryz.ntmps59
 go_wp2
 go_loop [3] (fun i => ∃ k : Nat, k ≤ n ∧ i = .int .i64 k ∧ (L.take k).all (fun a => decide (a.text.size ≤ 100)) = true) (fun i => n - (intOf i).toNat)
 case atStart => exact ⟨0, Nat.zero_le _, rfl, rfl⟩
 case round =>
   obtain ⟨k, hk, rfl, hal⟩ := hrel
   have HAl := Lib.hid hal
   clear hal
   by_cases hlt : k < n
   · obtain ⟨b, off, a, rfl, hblt, ha, c0, c1, c2, c3⟩ := HL.out.at_ (Below.refl _ _) hlt
     have HA := Lib.hid ha
     clear ha
     by_cases hs : a.text.size ≤ 100
     · have HE := Lib.hid (all_take (p := fun a => decide (a.text.size ≤ 100)) HA.out HAl.out (decide_eq_true hs))
       go_wp2
       go_round
       case rel => exact ⟨k + 1, by omega, by go_num, HE.out⟩
       case measure => simp [intOf]; omega
     · have HE : Hid (shortB L = false) := Lib.hid (by
         unfold shortB
         rw [all_mem (p := fun a => decide (a.text.size ≤ 100)) HA.out (decide_eq_false hs)]
         rfl)
       have hs' : 100 < a.text.size := by omega
       clear hs
       go_wp2
       go_ret
       exact ⟨ret_bool HE.out.symm, rfl⟩
   · obtain rfl : k = n := by omega
     have HE : Hid (shortB L = decide (k ≤ 300)) := Lib.hid (by
       have h := HAl.out
       rw [List.take_of_length_le (by rw [HLn.out]; exact Nat.le_refl _)] at h
       unfold shortB
       rw [h, HLn.out]
       rfl)
     by_cases h3 : k ≤ 300
     · go_wp2
       go_ret
       exact ⟨ret_bool (by rw [HE.out]; first | rfl | (simp; done) | (simp; omega) | (simp [h3])), rfl⟩
     · have h3' : 300 < k := by omega
       clear h3
       go_wp2
       go_ret
       exact ⟨ret_bool (by rw [HE.out]; first | rfl | (simp; done) | (simp; omega)), rfl⟩
end Go.Proofs.YtmnbobcgjnickaaGreatDoor
