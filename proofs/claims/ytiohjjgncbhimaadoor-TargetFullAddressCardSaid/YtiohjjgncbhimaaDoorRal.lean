/-
  Trees in memory, with where they lie. The reference: a unit on its own.
-/
import Derived.Test.YtiohjjgncbhimaaDoorSec
import Derived.Test.YtiohjjgncbhimaaDoorVal2
namespace Go.Proofs.YtiohjjgncbhimaaDoor
open Go.RowKit (wrap32 wrap64 intOf Hid Below)
open Lab Lcs
def WdsQ (Q : Nat → Prop) (w : World) (A : Option Addr) (n c : Nat) (L : List Wd) : Prop :=
 L.length = n ∧ n ≤ c ∧ c ≤ 9223372036854775807 ∧ (0 < n → ∃ b off, A = some ⟨b, off, none⟩ ∧ Q b ∧ ∀ j u, (wv L)[j]? = some u → w.cell? ⟨b, off + j, none⟩ = some u)
mutual
def UtQ (Q : Nat → Prop) (w : World) : Ut → List Value → Prop
 | .mk id kind label head words kids, vs => ∃ (Ah Aw Ak : Option Addr) (nh ch nw cw nk ck b off : Nat), vs = [.int .i64 id.x, .int .i64 id.y, .int .i64 id.z, .int .i64 kind, .string label, .slice Ah nh ch, .slice Aw nw cw, .slice Ak nk ck] ∧ (id.ok ∧ inI kind) ∧
     WdsQ Q w Ah nh ch head ∧ WdsQ Q w Aw nw cw words ∧ nk = kids.length ∧ nk ≤ ck ∧ ck ≤ 9223372036854775807 ∧ (0 < nk → Ak = some ⟨b, off, none⟩ ∧ Q b) ∧ UtRQ Q w b off kids
def UtRQ (Q : Nat → Prop) (w : World) (b off : Nat) : List Ut → Prop
 | [] => True
 | u :: r => Q b ∧ (∃ vs, UtQ Q w u vs ∧ ∀ j v, vs[j]? = some v → w.cell? ⟨b, off + j, none⟩ = some v) ∧ UtRQ Q w b (off + 8) r
end
theorem WdsQ.imp {Q Q' : Nat → Prop} {w w' : World} (h1 : ∀ b, Q b → Q' b) (h2 : ∀ b, Q b → w'.heap[b]? = w.heap[b]?) {A : Option Addr} {n c : Nat} {L : List Wd} (h : WdsQ Q w A n c L) : WdsQ Q' w' A n c L := by
 obtain ⟨g1, g2, g3, g4⟩ := h
 refine ⟨g1, g2, g3, fun hn => ?_⟩
 obtain ⟨b, off, e, hq, hc⟩ := g4 hn
 exact ⟨b, off, e, h1 b hq, fun j u hj => (World.cell?_of_block (a := ⟨b, off + j, none⟩) (h2 b hq)).trans (hc j u hj)⟩
mutual
theorem UtQ.imp {Q Q' : Nat → Prop} {w w' : World} (h1 : ∀ b, Q b → Q' b) (h2 : ∀ b, Q b → w'.heap[b]? = w.heap[b]?) : ∀ (u : Ut) (vs : List Value), UtQ Q w u vs → UtQ Q' w' u vs
 | .mk id kind label head words kids, vs, h => by
   unfold UtQ at h ⊢
   obtain ⟨Ah, Aw, Ak, nh, ch, nw, cw, nk, ck, b, off, e, ho, g1, g2, g3, g4, g5, g6, g7⟩ := h
   exact ⟨Ah, Aw, Ak, nh, ch, nw, cw, nk, ck, b, off, e, ho, g1.imp h1 h2, g2.imp h1 h2, g3, g4, g5, fun hn => ⟨(g6 hn).1, h1 b (g6 hn).2⟩, UtRQ.imp h1 h2 b off kids g7⟩
theorem UtRQ.imp {Q Q' : Nat → Prop} {w w' : World} (h1 : ∀ b, Q b → Q' b) (h2 : ∀ b, Q b → w'.heap[b]? = w.heap[b]?) : ∀ (b off : Nat) (l : List Ut), UtRQ Q w b off l → UtRQ Q' w' b off l
 | _, _, [], _ => by unfold UtRQ; trivial
 | b, off, u :: r, h => by
   unfold UtRQ at h ⊢
   obtain ⟨hq, ⟨vs, g1, g2⟩, g3⟩ := h
   exact ⟨h1 b hq, ⟨vs, UtQ.imp h1 h2 u vs g1, fun j v hj => (World.cell?_of_block (a := ⟨b, off + j, none⟩) (h2 b hq)).trans (g2 j v hj)⟩, UtRQ.imp h1 h2 b (off + 8) r g3⟩
end
mutual
theorem UtQ.plain {w : World} : ∀ (u : Ut) (vs : List Value), UtQ (fun b => b < w.heap.size) w u vs → UtC w u vs
 | .mk id kind label head words kids, vs, h => by
   unfold UtQ at h
   unfold UtC
   obtain ⟨Ah, Aw, Ak, nh, ch, nw, cw, nk, ck, b, off, e, ho, g1, g2, g3, g4, g5, g6, g7⟩ := h
   exact ⟨Ah, Aw, Ak, nh, ch, nw, cw, nk, ck, b, off, e, ho, g1, g2, g3, g4, g5, g6, UtRQ.plain b off kids g7⟩
theorem UtRQ.plain {w : World} : ∀ (b off : Nat) (l : List Ut), UtRQ (fun b => b < w.heap.size) w b off l → UtR w b off l
 | _, _, [], _ => by unfold UtR; trivial
 | b, off, u :: r, h => by
   unfold UtRQ at h
   unfold UtR
   obtain ⟨hq, ⟨vs, g1, g2⟩, g3⟩ := h
   exact ⟨hq, ⟨vs, UtQ.plain u vs g1, g2⟩, UtRQ.plain b (off + 8) r g3⟩
end
theorem WdsQ.nil (Q : Nat → Prop) (w : World) : WdsQ Q w none 0 0 [] := ⟨rfl, Nat.le_refl _, by omega, fun h => absurd h (by omega)⟩
end Go.Proofs.YtiohjjgncbhimaaDoor
namespace Go.Proofs.YtiohjjgncbhimaaDoor
open Go.RowKit (wrap32 wrap64 intOf Hid Below)
open Lab Lcs
theorem alone_head {id : Trip} {kind : Int} {label : Str} {head words : List Wd} {kids : List Ut} (h : rowB head = false) : aloneB (.mk id kind label head words kids) = false := by
 unfold aloneB
 rw [Bool.and_eq_false_iff]
 right
 by_cases hk : kind = 0
 · rw [if_pos hk]
   cases head with
   | nil => exact absurd h (by decide)
   | cons a r => rw [List.isEmpty_cons, Bool.and_false, Bool.false_and]
 · rw [if_neg hk, h, Bool.and_false, Bool.false_and]
theorem alone_words {id : Trip} {kind : Int} {label : Str} {head words : List Wd} {kids : List Ut} (h : rowB words = false) : aloneB (.mk id kind label head words kids) = false := by
 unfold aloneB
 rw [Bool.and_eq_false_iff]
 right
 by_cases hk : kind = 0
 · rw [if_pos hk]
   cases words with
   | nil => exact absurd h (by decide)
   | cons a r => rw [List.isEmpty_cons, Bool.and_false]
 · rw [if_neg hk, h, Bool.and_false]
theorem alone_kind {id : Trip} {kind : Int} {label : Str} {head words : List Wd} {kids : List Ut} (h : ¬ (0 ≤ kind ∧ kind ≤ 7)) : aloneB (.mk id kind label head words kids) = false := by
 unfold aloneB
 rw [Bool.and_eq_false_iff]
 right
 rw [if_neg (by omega), decide_eq_false (by omega)]
 rfl
set_option maxHeartbeats 4000000 in
set_option maxRecDepth 100000 in
theorem ralone_any (u : Ut) (v : Value) (w : World) (hV : UtV w u v) (hS : TameU u) :
   Calls Tryd.prog 62 #[v] w fun e w' => e = .returned (.bool (aloneB u)) ∧ Below w.heap.size w w' := by
 cases u with
 | mk id kind label head words kids =>
   obtain ⟨Ah, Aw, Ak, nh, ch, nw, cw, nk, ck, rfl, hok, hWh, hWw, hR⟩ := hV.open_
   obtain ⟨hs1, hs2, hs3⟩ := hS
   have hs1 : label.size ≤ 1000000 := hs1
   have hs2 : head.length ≤ 1000000 := hs2
   have hs3 : words.length ≤ 1000000 := hs3
   have hnk := hR.2.1
   have hck := hR.2.2.1
   have hlk := hR.1
   have hnh := hWh.len
   have hnw := hWw.len
   have hch := hWh.2.1
   have hch2 := hWh.2.2.1
   have hcw := hWw.2.1
   have hcw2 := hWw.2.2.1
   have hb0 := alloc_below w (.cells #[.int .i64 id.x, .int .i64 id.y, .int .i64 id.z, .int .i64 kind, .string label, .slice Ah nh ch, .slice Aw nw cw, .slice Ak nk ck] 27)
   have HB0 := Lib.hid hb0
   have HBx := Lib.hid (Box8.new w 27 (.int .i64 id.x) (.int .i64 id.y) (.int .i64 id.z) (.int .i64 kind) (.string label) (.slice Ah nh ch) (.slice Aw nw cw) (.slice Ak nk ck))
   have HL0 := Lib.hid (alloc_lt w (.cells #[.int .i64 id.x, .int .i64 id.y, .int .i64 id.z, .int .i64 kind, .string label, .slice Ah nh ch, .slice Aw nw cw, .slice Ak nk ck] 27))
   have HH := Lib.hid (row_any head nh ch Ah _ (hWh.below hb0) (by omega))
   have HWw := Lib.hid hWw
   have HM : Hid (∀ W, Calls Tryd.prog 55 #[.string label] W fun e w' => e = .returned (.bool (mayL label.data.toList)) ∧ W = w') := Lib.hid fun W => may_any label W hs1
   obtain ⟨n0, n1, n2, n3, n4, n5, n6, n7⟩ := HBx.out
   have HNh := Lib.hid hnh
   have HNw := Lib.hid hnw
   have HNk := Lib.hid hlk
   clear hR hV hok hWh hWw hb0 hnh hnw hlk
   by_cases hk0 : 0 ≤ kind
   case neg =>
     have HE := Lib.hid (alone_kind (id := id) (label := label) (head := head) (words := words) (kids := kids) (fun h => hk0 h.1))
     have hk0' : kind < 0 := by omega
     clear hk0
     go_enter Tryd.func62, Tryd.ntmps62
     go_wp2_with fail
     go_ret
     exact ⟨ret_bool HE.out.symm, HB0.out⟩
   by_cases hk7 : kind ≤ 7
   case neg =>
     have HE := Lib.hid (alone_kind (id := id) (label := label) (head := head) (words := words) (kids := kids) (fun h => hk7 h.2))
     have hk7' : 7 < kind := by omega
     clear hk7
     go_enter Tryd.func62, Tryd.ntmps62
     go_wp2_with fail
     go_ret
     exact ⟨ret_bool HE.out.symm, HB0.out⟩
   by_cases h64 : nk ≤ 64
   case neg =>
     have HE := Lib.hid (alone_many (id := id) (kind := kind) (label := label) (head := head) (words := words) (kids := kids) (by have := HNk.out; omega))
     have h64' : 64 < nk := by omega
     clear h64
     go_enter Tryd.func62, Tryd.ntmps62
     go_wp2_with fail
     go_ret
     exact ⟨ret_bool HE.out.symm, HB0.out⟩
   cases hh : rowB head with
   | false =>
     have HE := Lib.hid (alone_head (id := id) (kind := kind) (label := label) (head := head) (words := words) (kids := kids) hh)
     rw [hh] at HH
     clear hh
     go_enter Tryd.func62, Tryd.ntmps62
     go_wp2_with fail
     with_reducible refine (HH.out).mono ?_
     rintro e w1 ⟨rfl, hb1⟩
     go_wp2_with fail
     go_ret
     exact ⟨ret_bool HE.out.symm, HB0.out.trans (hb1.mono HB0.out.size)⟩
   | true =>
     rw [hh] at HH
     have HHt := Lib.hid hh
     clear hh
     cases hw : rowB words with
     | false =>
       have HE := Lib.hid (alone_words (id := id) (kind := kind) (label := label) (head := head) (words := words) (kids := kids) hw)
       go_enter Tryd.func62, Tryd.ntmps62
       go_wp2_with fail
       with_reducible refine (HH.out).mono ?_
       rintro e w1 ⟨rfl, hb1⟩
       have X1 := Lib.hid (HB0.out.trans (hb1.mono HB0.out.size))
       obtain ⟨p0, p1, p2, p3, p4, p5, p6, p7⟩ := HBx.out.below hb1 HL0.out
       have hW := row_any words nw cw Aw w1 (HWw.out.below X1.out) (by have := HNw.out; omega)
       rw [hw] at hW
       have HW := Lib.hid hW
       clear hb1 hW hw
       go_wp2_with fail
       with_reducible refine (HW.out).mono ?_
       rintro e w2 ⟨rfl, hb2⟩
       go_wp2_with fail
       go_ret
       exact ⟨ret_bool HE.out.symm, X1.out.trans (hb2.mono X1.out.size)⟩
     | true =>
       have HWt := Lib.hid hw
       clear hw
       go_enter Tryd.func62, Tryd.ntmps62
       go_wp2_with fail
       with_reducible refine (HH.out).mono ?_
       rintro e w1 ⟨rfl, hb1⟩
       have X1 := Lib.hid (HB0.out.trans (hb1.mono HB0.out.size))
       have Y1 := Lib.hid (HBx.out.below hb1 HL0.out)
       have Z1 := Lib.hid (Nat.lt_of_lt_of_le HL0.out hb1.size)
       obtain ⟨p0, p1, p2, p3, p4, p5, p6, p7⟩ := Y1.out
       have hW := row_any words nw cw Aw w1 (HWw.out.below X1.out) (by have := HNw.out; omega)
       rw [HWt.out] at hW
       have HW := Lib.hid hW
       clear hb1 hW
       go_wp2_with fail
       with_reducible refine (HW.out).mono ?_
       rintro e w2 ⟨rfl, hb2⟩
       have X2 := Lib.hid (X1.out.trans (hb2.mono X1.out.size))
       obtain ⟨q0, q1, q2, q3, q4, q5, q6, q7⟩ := Y1.out.below hb2 Z1.out
       clear hb2 p0 p1 p2 p3 p4 p5 p6 p7
       by_cases hk : kind = 0
       · subst hk
         have HE := Lib.hid (alone_book (id := id) (label := label) (head := head) (words := words) (kids := kids) (by have := HNk.out; omega))
         rw [isEmpty_len, isEmpty_len, HNh.out, HNw.out] at HE
         by_cases hl : label.size = 0
         · obtain rfl := size_zero hl
           by_cases hh : nh = 0
           · subst hh
             by_cases hw : nw = 0
             · subst hw
               go_wp2_with fail
               go_ret
               exact ⟨ret_bool HE.out.symm, X2.out⟩
             · rw [decide_eq_false hw] at HE
               have f1 : ((nw : Int) == 0) = false := by rw [beq_eq_false_iff_ne]; omega
               go_wp2_with fail
               go_ret
               exact ⟨ret_bool (by rw [HE.out]; rfl), X2.out⟩
           · rw [decide_eq_false hh] at HE
             have f1 : ((nh : Int) == 0) = false := by rw [beq_eq_false_iff_ne]; omega
             go_wp2_with fail
             go_ret
             exact ⟨ret_bool (by rw [HE.out]; rfl), X2.out⟩
         · rw [decide_eq_false hl] at HE
           have f1 := empty_list hl
           clear hl
           go_wp2_with fail
           go_ret
           exact ⟨ret_bool (by rw [HE.out]; rfl), X2.out⟩
       · have HE := Lib.hid (alone_other (id := id) (label := label) (head := head) (words := words) (kids := kids) (by have := HNk.out; omega) hk)
         rw [decide_eq_true ⟨hk0, hk7⟩, HHt.out, HWt.out] at HE
         have f0 : (kind == 0) = false := by rw [beq_eq_false_iff_ne]; exact hk
         clear hk
         go_wp2_with fail
         with_reducible refine (HM.out _).mono ?_
         rintro e w3 ⟨rfl, rfl⟩
         go_wp2_with fail
         go_ret
         exact ⟨ret_bool (by rw [HE.out]; simp), X2.out⟩
end Go.Proofs.YtiohjjgncbhimaaDoor
