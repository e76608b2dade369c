/-
  Kinds: the tables of names and of nesting; isKind, CanContain, KindName; the reference's Nests and Name. The contract of every, for a test that reads only. Words in memory; validWords; the reference's Texts, row and short. Words: the reference's Texts, row and short; unmarked; equality of rows. Words: unmarked; equality of rows. Slices of small structs in memory. The contract of IDs. The reference's All, Alike; equality of lists of IDs. A unit on its own: validAlone, the reference's alone; units without an ID, without marks. Keys of maps: steps and IDs. The contract of validChildren. The contract of validIDs. The contracts of Valid and IsBare.
-/
import Derived.Test.YtiohjjgncbhimaaDoorDep
import Derived.OneCell
import Derived.DeepKeys4
import Derived.Maps.Own
import Derived.Maps.OwnSet
namespace Go.Proofs.YtiohjjgncbhimaaDoor
open Go.RowKit (wrap32 wrap64 intOf Hid Below)
open Lab Lcs
set_option maxHeartbeats 4000000 in
set_option maxRecDepth 100000 in
theorem nests_any (p z : Int) (w : World) : Calls Tryd.prog 63 #[.int .i64 p, .int .i64 z] w fun e w' => e = .returned (.bool (nestsB p z)) ∧ w = w' := by
 by_cases p0 : p = 0
 · subst p0
   by_cases z1 : z = 1
   · subst z1
     go_enter Tryd.func63, Tryd.ntmps63
     go_wp2
     go_ret
     exact ⟨rfl, rfl⟩
   · by_cases z2 : z = 2
     · subst z2
       go_enter Tryd.func63, Tryd.ntmps63
       go_wp2
       go_ret
       exact ⟨rfl, rfl⟩
     · have HE : Hid (nestsB 0 z = false) := Lib.hid (by simp [nestsB, z1, z2])
       have f1 : (z == 1) = false := by simpa using z1
       have f2 : (z == 2) = false := by simpa using z2
       clear z1 z2
       go_enter Tryd.func63, Tryd.ntmps63
       go_wp2
       go_ret
       exact ⟨ret_bool (by rw [HE.out]), rfl⟩
 · have q0 : (p == 0) = false := by simpa using p0
   by_cases p1 : p = 1
   · subst p1
     by_cases z2 : z = 2
     · subst z2
       go_enter Tryd.func63, Tryd.ntmps63
       go_wp2
       go_ret
       exact ⟨rfl, rfl⟩
     · have HE : Hid (nestsB 1 z = false) := Lib.hid (by simp [nestsB, z2])
       have f2 : (z == 2) = false := by simpa using z2
       clear z2
       go_enter Tryd.func63, Tryd.ntmps63
       go_wp2
       go_ret
       exact ⟨ret_bool (by rw [HE.out]), rfl⟩
   · have q1 : (p == 1) = false := by simpa using p1
     by_cases p23 : p = 2 ∨ p = 3
     · by_cases z347 : z = 3 ∨ z = 4 ∨ z = 7
       · rcases p23 with rfl | rfl <;> rcases z347 with rfl | rfl | rfl
         all_goals
           go_enter Tryd.func63, Tryd.ntmps63
           go_wp2
           go_ret
           exact ⟨rfl, rfl⟩
       · have f3 : (z == 3) = false := by rw [beq_eq_false_iff_ne]; omega
         have f4 : (z == 4) = false := by rw [beq_eq_false_iff_ne]; omega
         have f7 : (z == 7) = false := by rw [beq_eq_false_iff_ne]; omega
         have HE : Hid (nestsB p z = false) := Lib.hid (by rw [nestsB, if_neg p0, if_neg p1, if_pos p23]; exact decide_eq_false z347)
         clear z347
         rcases p23 with rfl | rfl
         all_goals
           go_enter Tryd.func63, Tryd.ntmps63
           go_wp2
           go_ret
           exact ⟨ret_bool (by rw [HE.out]), rfl⟩
     · have q2 : (p == 2) = false := by rw [beq_eq_false_iff_ne]; omega
       have q3 : (p == 3) = false := by rw [beq_eq_false_iff_ne]; omega
       by_cases p4 : p = 4
       · subst p4
         by_cases z5 : z = 5
         · subst z5
           go_enter Tryd.func63, Tryd.ntmps63
           go_wp2
           go_ret
           exact ⟨rfl, rfl⟩
         · have HE : Hid (nestsB 4 z = false) := Lib.hid (by simp [nestsB, z5])
           have f2 : (z == 5) = false := by simpa using z5
           clear z5
           go_enter Tryd.func63, Tryd.ntmps63
           go_wp2
           go_ret
           exact ⟨ret_bool (by rw [HE.out]), rfl⟩
       · have q4 : (p == 4) = false := by simpa using p4
         by_cases p5 : p = 5
         · subst p5
           by_cases z6 : z = 6
           · subst z6
             go_enter Tryd.func63, Tryd.ntmps63
             go_wp2
             go_ret
             exact ⟨rfl, rfl⟩
           · have HE : Hid (nestsB 5 z = false) := Lib.hid (by simp [nestsB, z6])
             have f2 : (z == 6) = false := by simpa using z6
             clear z6
             go_enter Tryd.func63, Tryd.ntmps63
             go_wp2
             go_ret
             exact ⟨ret_bool (by rw [HE.out]), rfl⟩
         · have q5 : (p == 5) = false := by simpa using p5
           have HE : Hid (nestsB p z = false) := Lib.hid (by rw [nestsB, if_neg p0, if_neg p1, if_neg p23, if_neg p4, if_neg p5])
           clear p0 p1 p23 p4 p5
           go_enter Tryd.func63, Tryd.ntmps63
           go_wp2
           go_ret
           exact ⟨ret_bool (by rw [HE.out]), rfl⟩
end Go.Proofs.YtiohjjgncbhimaaDoor
namespace Go.Proofs.YtiohjjgncbhimaaDoor
open Go.RowKit (wrap32 wrap64 intOf Hid Below)
open Lab Lcs
theorem all_bad_kid {p : Ut → Bool} {id : Trip} {kind : Int} {label : Str} {head words : List Wd} {kids : List Ut} {k : Nat} {u : Ut} (hu : kids[k]? = some u) (h : u.all.all p = false) : (Ut.mk id kind label head words kids).all.all p = false := by
 rw [List.all_eq_false] at h ⊢
 obtain ⟨x, hx, hp⟩ := h
 exact ⟨x, kid_all hu x hx, hp⟩
theorem all_bad_self {p : Ut → Bool} {u : Ut} (h : p u = false) : u.all.all p = false := by
 rw [List.all_eq_false]
 exact ⟨u, self_all u, by rw [h]; decide⟩
theorem all_good_kids {p : Ut → Bool} {id : Trip} {kind : Int} {label : Str} {head words : List Wd} {kids : List Ut} (h : p (.mk id kind label head words kids) = true) (hk : (Ut.alls kids).all p = true) : (Ut.mk id kind label head words kids).all.all p = true := by
 rw [all_mk, List.all_cons, h, hk]
 rfl
theorem all_step {p : Ut → Bool} {kids : List Ut} {k : Nat} {u : Ut} (hu : kids[k]? = some u) (h1 : (Ut.alls (kids.take k)).all p = true) (h2 : u.all.all p = true) : (Ut.alls (kids.take (k + 1))).all p = true := by
 rw [alls_take hu, List.all_append, h1, h2]
 rfl
end Go.Proofs.YtiohjjgncbhimaaDoor
namespace Go.Proofs.YtiohjjgncbhimaaDoor
open Go.RowKit (wrap32 wrap64 intOf Hid Below)
open Lab Lcs
theorem info_parts {P : Program} {e : TypeId} {z : Value} {n b : Nat} (h : (P.info? e).map (fun i => (i.zero, i.size, i.bytes)) = some (some z, n, b)) : ∃ i, P.info? e = some i ∧ i.zero = some z ∧ i.size = n ∧ i.bytes = b := by
 cases hi : P.info? e with
 | none => rw [hi] at h; cases h
 | some i =>
   rw [hi] at h
   simp only [Option.map_some, Option.some.injEq, Prod.mk.injEq] at h
   exact ⟨i, rfl, h.1, h.2.1, h.2.2⟩
theorem info_id : (Tryd.prog.info? 23).map (fun i => (i.zero, i.size, i.bytes)) = some (some (.agg #[.int .i64 0, .int .i64 0, .int .i64 0]), 3, 24) := by kernel_rfl
theorem new_row (W : World) (N : Nat) (hN : N = W.heap.size) (news : List Value) (ty : TypeId) (j : Nat) (u : Value) (h : news[j]? = some u) : (W.alloc (.cells news.toArray ty)).cell? ((⟨N, 0, none⟩ : Addr).add j) = some u := by
 subst hN
 rw [Go.WideShapes.add_plain, Nat.zero_add, World.cell?_alloc_at _ _ _ _ rfl]
 simpa using h
theorem wv_at : ∀ {L : List Wd} {k : Nat} {a : Wd}, L[k]? = some a → (wv L)[k * 4]? = some (.string a.text) ∧ (wv L)[k * 4 + 1]? = some (.int .i64 a.mark.x) ∧ (wv L)[k * 4 + 2]? = some (.int .i64 a.mark.y) ∧ (wv L)[k * 4 + 3]? = some (.int .i64 a.mark.z)
 | [], _, _, h => by simp at h
 | c :: r, 0, a, h => by
   simp only [List.getElem?_cons_zero, Option.some.injEq] at h
   subst h
   exact ⟨rfl, rfl, rfl, rfl⟩
 | c :: r, k + 1, a, h => by
   simp only [List.getElem?_cons_succ] at h
   obtain ⟨h1, h2, h3, h4⟩ := wv_at h
   rw [show (k + 1) * 4 = k * 4 + 4 by omega]
   exact ⟨h1, by rw [show k * 4 + 4 + 1 = (k * 4 + 1) + 4 by omega]; exact h2, by rw [show k * 4 + 4 + 2 = (k * 4 + 2) + 4 by omega]; exact h3, by rw [show k * 4 + 4 + 3 = (k * 4 + 3) + 4 by omega]; exact h4⟩
theorem Wds.len {w : World} {A : Option Addr} {n c : Nat} {L : List Wd} (h : Wds w A n c L) : L.length = n := h.1
theorem Wds.at_ {w wr : World} {A : Option Addr} {n c : Nat} {L : List Wd} (h : Wds w A n c L) (hb : Below w.heap.size w wr) {k : Nat} (hk : k < n) :
   ∃ (b off : Nat) (a : Wd), A = some ⟨b, off, none⟩ ∧ b < w.heap.size ∧ L[k]? = some a ∧ wr.cell? ⟨b, off + k * 4, none⟩ = some (.string a.text) ∧ wr.cell? ⟨b, off + k * 4 + 1, none⟩ = some (.int .i64 a.mark.x) ∧ wr.cell? ⟨b, off + k * 4 + 2, none⟩ = some (.int .i64 a.mark.y) ∧ wr.cell? ⟨b, off + k * 4 + 3, none⟩ = some (.int .i64 a.mark.z) := by
 obtain ⟨h1, h2, h3, h4⟩ := h
 obtain ⟨b, off, e, hlt, hc⟩ := h4 (by omega)
 have ha : L[k]? = some L[k] := List.getElem?_eq_getElem (by omega)
 obtain ⟨g0, g1, g2, g3⟩ := wv_at ha
 refine ⟨b, off, _, e, hlt, ha, (hb.cell (p := ⟨b, off + k * 4, none⟩) hlt).trans (hc _ _ g0), ?_, ?_, ?_⟩
 · rw [Nat.add_assoc]; exact (hb.cell (p := ⟨b, off + (k * 4 + 1), none⟩) hlt).trans (hc _ _ g1)
 · rw [Nat.add_assoc]; exact (hb.cell (p := ⟨b, off + (k * 4 + 2), none⟩) hlt).trans (hc _ _ g2)
 · rw [Nat.add_assoc]; exact (hb.cell (p := ⟨b, off + (k * 4 + 3), none⟩) hlt).trans (hc _ _ g3)
theorem texts_take {L : List Wd} {k : Nat} {a : Wd} (h : L[k]? = some a) : textsOf (L.take (k + 1)) = textsOf (L.take k) ++ [a.text] := by
 obtain ⟨hk, he⟩ := List.getElem?_eq_some_iff.1 h
 unfold textsOf
 rw [List.take_succ_eq_append_getElem hk, List.map_append, he]
 rfl
theorem sv_snoc (L : List Str) (s : Str) : sv (L ++ [s]) = sv L ++ [.string s] := by simp [sv]
theorem grown_below {base n size : Nat} {e : TypeId} {v : Value} {xs : List Value} {w W w' : World} (hown : W.ownsRow base e size v n xs) (hb : Below base w W) (hW : base ≤ W.heap.size) (hg : W.grownBy w' v.ownBlock) : Below base w w' := below_own hown hb hW hg
end Go.Proofs.YtiohjjgncbhimaaDoor
namespace Go.Proofs.YtiohjjgncbhimaaDoor
open Go.RowKit (wrap32 wrap64 intOf Hid Below)
open Lab Lcs
set_option maxHeartbeats 4000000 in
set_option maxRecDepth 100000 in
theorem texts_any (L : List Wd) (n c : Nat) (A : Option Addr) (w : World) (hl : Wds w A n c L) (hn : n ≤ 1000000) :
   Calls Tryd.prog 75 #[.slice A n c] w fun e w' => (∃ A' c', e = .returned (.slice A' n c') ∧ Sq w' A' n c' (textsOf L)) ∧ Below w.heap.size w w' := by
 have HL := Lib.hid hl
 have HLn := Lib.hid hl.1
 obtain ⟨i0, hi, hz0, hz1, hz2⟩ := info_parts info_str
 have hb0 := alloc_below w (.cells #[] 9)
 clear hl
 go_enter Tryd.func75, Tryd.ntmps75
 go_wp2
 go_loopw [3, 4] (fun v i wr => ∃ (k cc : Nat) (Av : Option Addr), k ≤ n ∧ i = .int .i64 k ∧ v = .slice Av k cc ∧ wr.ownsRow w.heap.size 9 1 (.slice Av k cc) k (sv (textsOf (L.take k))) ∧ Below w.heap.size w wr) (fun _ i _ => n - (intOf i).toNat)
 case atStart => exact ⟨0, 0, _, Nat.zero_le _, rfl, rfl, own_empty _ _ _, hb0⟩
 case round =>
   rename World => wr
   obtain ⟨k, cc, Av, hk, rfl, rfl, hown, hbr⟩ := hrel
   have hbz := hbr.size
   have HO := Lib.hid hown
   have HB := Lib.hid hbr
   clear hown
   by_cases hlt : k < n
   · obtain ⟨b, off, a, rfl, hblt, ha, c0, c1, c2, c3⟩ := HL.out.at_ hbr hlt
     have HT := Lib.hid (texts_take ha)
     have HB2 := Lib.hid (alloc_below wr (.cells #[.string a.text] 9))
     clear ha hbr
     go_wp2_with (at_builtin; refine wpList_append_own_at _ rfl _ _ 29 rfl w.heap.size 9 i0 (.string ⟨#[]⟩) 1 16 Tryd.underlying29 hi hz0 hz1 hz2 rfl (by decide) _ _ _ rfl (own_below HO.out HB2.out) ⟨wr.heap.size, 0, none⟩ 1 1 [.string a.text] rfl rfl ?c1 ?c2 ?c3 ?c4 ?c5 ?_)
     case c1 => exact fun j u hj => new_row _ _ (by simp) [.string a.text] _ j u hj
     case c2 => intro u hu; simp at hu; subst hu; rfl
     case c3 => unfold maxLen; omega
     case c4 => omega
     case c5 => simp; omega
     intro v' w3 hown' hgrow _ _
     obtain ⟨A', c', rfl, _⟩ := own_slice hown'
     have HO' := Lib.hid hown'
     have HB3 := Lib.hid (grown_below (own_below HO.out HB2.out) (HB.out.trans (HB2.out.mono hbz)) (Nat.le_trans hbz HB2.out.size) hgrow)
     clear hown' hgrow
     go_wp2
     go_roundw
     case rel => exact ⟨k + 1, c', A', by omega, by go_num, rfl, by rw [HT.out, sv_snoc]; exact HO'.out, HB3.out⟩
     case measure => simp [intOf]; omega
   · obtain rfl : k = n := by omega
     have hown := HO.out
     rw [List.take_of_length_le (by rw [HLn.out]; exact Nat.le_refl _)] at hown
     have HS := Lib.hid (Sq.of_own hown (by omega))
     clear hown
     go_wp2
     go_ret
     exact ⟨⟨_, _, rfl, HS.out⟩, HB.out⟩
set_option maxHeartbeats 4000000 in
set_option maxRecDepth 100000 in
theorem row_any (L : List Wd) (n c : Nat) (A : Option Addr) (w : World) (hl : Wds w A n c L) (hn : n ≤ 1000000) :
   Calls Tryd.prog 72 #[.slice A n c] w fun e w' => e = .returned (.bool (rowB L)) ∧ Below w.heap.size w w' := by
 have HTx := Lib.hid (texts_any L n c A w hl hn)
 have HLn := Lib.hid hl.1
 clear hl
 by_cases h : n ≤ 256
 · go_enter Tryd.func72, Tryd.ntmps72
   go_wp2_with fail
   with_reducible refine (HTx.out).mono ?_
   rintro e w1 ⟨⟨A', c', rfl, hs⟩, hb1⟩
   have HM := Lib.hid (wmay_any (textsOf L) n c' A' w1 hs)
   clear hs
   go_wp2_with (go_at_call 74; ((with_reducible refine (HM.out).mono ?_); rintro e w2 ⟨rfl, rfl⟩))
   go_ret
   exact ⟨rfl, hb1⟩
 · have HE : Hid (rowB L = false) := Lib.hid (may_many (by unfold textsOf; rw [List.length_map, HLn.out]; omega))
   go_enter Tryd.func72, Tryd.ntmps72
   go_wp2_with fail
   go_ret
   exact ⟨ret_bool HE.out.symm, Below.refl _ _⟩
def shortB (L : List Wd) : Bool := L.all (fun a => decide (a.text.size ≤ 100)) && decide (L.length ≤ 300)
theorem all_mem {L : List Wd} {k : Nat} {a : Wd} {p : Wd → Bool} (h : L[k]? = some a) (hp : p a = false) : L.all p = false := by
 rw [List.all_eq_false]
 exact ⟨a, List.mem_of_getElem? h, by rw [hp]; decide⟩
theorem all_take {L : List Wd} {k : Nat} {a : Wd} {p : Wd → Bool} (h : L[k]? = some a) (h1 : (L.take k).all p = true) (hp : p a = true) : (L.take (k + 1)).all p = true := by
 obtain ⟨hk, he⟩ := List.getElem?_eq_some_iff.1 h
 rw [List.take_succ_eq_append_getElem hk, List.all_append, h1, he]
 simp [hp]
set_option maxHeartbeats 4000000 in
set_option maxRecDepth 100000 in
theorem short_any (L : List Wd) (n c : Nat) (A : Option Addr) (w : World) (hl : Wds w A n c L) :
   Calls Tryd.prog 47 #[.slice A n c] w fun e w' => e = .returned (.bool (shortB L)) ∧ w = w' := by
 have HL := Lib.hid hl
 have HLn := Lib.hid hl.1
 have hnc := hl.2.1
 have hc := hl.2.2.1
 clear hl
 go_enter Tryd.func47, Tryd.ntmps47
 go_wp2
 go_loop [3] (fun i => ∃ k : Nat, k ≤ n ∧ i = .int .i64 k ∧ (L.take k).all (fun a => decide (a.text.size ≤ 100)) = true) (fun i => n - (intOf i).toNat)
 case atStart => exact ⟨0, Nat.zero_le _, rfl, rfl⟩
 case round =>
   obtain ⟨k, hk, rfl, hal⟩ := hrel
   have HAl := Lib.hid hal
   clear hal
   by_cases hlt : k < n
   · obtain ⟨b, off, a, rfl, hblt, ha, c0, c1, c2, c3⟩ := HL.out.at_ (Below.refl _ _) hlt
     have HA := Lib.hid ha
     clear ha
     by_cases hs : a.text.size ≤ 100
     · have HE := Lib.hid (all_take (p := fun a => decide (a.text.size ≤ 100)) HA.out HAl.out (decide_eq_true hs))
       go_wp2
       go_round
       case rel => exact ⟨k + 1, by omega, by go_num, HE.out⟩
       case measure => simp [intOf]; omega
     · have HE : Hid (shortB L = false) := Lib.hid (by
         unfold shortB
         rw [all_mem (p := fun a => decide (a.text.size ≤ 100)) HA.out (decide_eq_false hs)]
         rfl)
       have hs' : 100 < a.text.size := by omega
       clear hs
       go_wp2
       go_ret
       exact ⟨ret_bool HE.out.symm, rfl⟩
   · obtain rfl : k = n := by omega
     have HE : Hid (shortB L = decide (k ≤ 300)) := Lib.hid (by
       have h := HAl.out
       rw [List.take_of_length_le (by rw [HLn.out]; exact Nat.le_refl _)] at h
       unfold shortB
       rw [h, HLn.out]
       rfl)
     by_cases h3 : k ≤ 300
     · go_wp2
       go_ret
       exact ⟨ret_bool (by rw [HE.out]; first | rfl | (simp; done) | (simp; omega) | (simp [h3])), rfl⟩
     · have h3' : 300 < k := by omega
       clear h3
       go_wp2
       go_ret
       exact ⟨ret_bool (by rw [HE.out]; first | rfl | (simp; done) | (simp; omega)), rfl⟩
end Go.Proofs.YtiohjjgncbhimaaDoor
namespace Go.Proofs.YtiohjjgncbhimaaDoor
open Go.RowKit (wrap32 wrap64 intOf Hid Below)
open Lab Lcs
theorem trip_part {x y z a b c : Int} (h : ¬ (⟨x, y, z⟩ : Trip) = ⟨a, b, c⟩) : (¬ x = a) ∨ (x = a ∧ ¬ y = b) ∨ (x = a ∧ y = b ∧ ¬ z = c) := by
 by_cases h1 : x = a
 · by_cases h2 : y = b
   · by_cases h3 : z = c
     · exact absurd (by rw [h1, h2, h3]) h
     · exact Or.inr (Or.inr ⟨h1, h2, h3⟩)
   · exact Or.inr (Or.inl ⟨h1, h2⟩)
 · exact Or.inl h1
end Go.Proofs.YtiohjjgncbhimaaDoor
namespace Go.Proofs.YtiohjjgncbhimaaDoor
open Go.RowKit (wrap32 wrap64 intOf Hid Below)
open Lab Lcs
section
variable {α : Type} (f : α → List Value) (sz : Nat)
def fl (L : List α) : List Value := L.flatMap f
theorem fl_app (a b : List α) : fl f (a ++ b) = fl f a ++ fl f b := by simp [fl]
theorem fl_len (hf : ∀ a, (f a).length = sz) : ∀ L : List α, (fl f L).length = L.length * sz
 | [] => by simp [fl]
 | a :: r => by
   have := fl_len hf r
   show (f a ++ fl f r).length = _
   rw [List.length_append, hf, this, List.length_cons, Nat.succ_mul, Nat.add_comm]
theorem fl_at (hf : ∀ a, (f a).length = sz) : ∀ {L : List α} {k : Nat} {a : α}, L[k]? = some a → ∀ (j : Nat) (u : Value), (f a)[j]? = some u → (fl f L)[k * sz + j]? = some u
 | [], _, _, h => by simp at h
 | c :: r, 0, a, h => by
   simp only [List.getElem?_cons_zero, Option.some.injEq] at h
   subst h
   intro j u hj
   show (f c ++ fl f r)[0 * sz + j]? = some u
   rw [Nat.zero_mul, Nat.zero_add, List.getElem?_append_left (List.getElem?_eq_some_iff.1 hj).1]
   exact hj
 | c :: r, k + 1, a, h => by
   simp only [List.getElem?_cons_succ] at h
   intro j u hj
   show (f c ++ fl f r)[(k + 1) * sz + j]? = some u
   rw [List.getElem?_append_right (by rw [hf, Nat.succ_mul]; omega), hf, show (k + 1) * sz + j - sz = k * sz + j by rw [Nat.succ_mul]; omega]
   exact fl_at hf h j u hj
def Fq (w : World) (A : Option Addr) (n c : Nat) (L : List α) : Prop :=
 L.length = n ∧ n ≤ c ∧ c ≤ 9223372036854775807 ∧ (0 < n → ∃ b off, A = some ⟨b, off, none⟩ ∧ b < w.heap.size ∧ ∀ j u, (fl f L)[j]? = some u → w.cell? ⟨b, off + j, none⟩ = some u)
variable {f sz}
theorem Fq.below {w w' : World} {A : Option Addr} {n c : Nat} {L : List α} (h : Fq f w A n c L) (hb : Below w.heap.size w w') : Fq f w' A n c L := by
 obtain ⟨h1, h2, h3, h4⟩ := h
 refine ⟨h1, h2, h3, fun hn => ?_⟩
 obtain ⟨b, off, e, hlt, hc⟩ := h4 hn
 exact ⟨b, off, e, Nat.lt_of_lt_of_le hlt hb.size, fun j u hj => (hb.cell (p := ⟨b, off + j, none⟩) hlt).trans (hc j u hj)⟩
theorem Fq.of_own {w : World} {base : Nat} {e : TypeId} {A : Option Addr} {c n : Nat} {L : List α} (hf : ∀ a, (f a).length = sz) (hz : 0 < sz) (h : w.ownsRow base e sz (.slice A n c) n (fl f L)) : Fq f w A n c L := by
 have hl := fl_len f sz hf L
 have h1 := h.1
 have hn : L.length = n := by
   have : L.length * sz = n * sz := by rw [← hl, h1]
   exact Nat.eq_of_mul_eq_mul_right hz this
 obtain ⟨_, _, he, h2, h3⟩ := own_slice h
 injection he with _ _ e3
 subst e3
 refine ⟨hn, h2, h3, fun hp => ?_⟩
 obtain ⟨g, cap, hv, _, hlt⟩ := h.form hp
 injection hv with hA _ _
 subst hA
 refine ⟨g, 0, rfl, hlt, fun j u hj => ?_⟩
 have hj' := (List.getElem?_eq_some_iff.1 hj).1
 have h4 := h.cellAt (g := g) j (by omega)
 rw [Nat.zero_add]
 exact h4.trans hj
theorem Fq.spot {w wr : World} {A : Option Addr} {n c : Nat} {L : List α} (hf : ∀ a, (f a).length = sz) (h : Fq f w A n c L) (hb : Below w.heap.size w wr) {k : Nat} (hk : k < n) :
   ∃ (b off : Nat) (a : α), A = some ⟨b, off, none⟩ ∧ b < w.heap.size ∧ L[k]? = some a ∧ ∀ (j : Nat) (u : Value), (f a)[j]? = some u → wr.cell? ⟨b, off + k * sz + j, none⟩ = some u := by
 obtain ⟨h1, h2, h3, h4⟩ := h
 obtain ⟨b, off, e, hlt, hc⟩ := h4 (by omega)
 have ha : L[k]? = some L[k] := List.getElem?_eq_getElem (by omega)
 refine ⟨b, off, _, e, hlt, ha, fun j u hj => ?_⟩
 rw [Nat.add_assoc]
 exact (hb.cell (p := ⟨b, off + (k * sz + j), none⟩) hlt).trans (hc _ _ (fl_at f sz hf ha j u hj))
theorem Fq.nil (w : World) (A : Option Addr) (c : Nat) (hc : c ≤ 9223372036854775807) : Fq f w A 0 c [] := ⟨rfl, Nat.zero_le _, hc, fun h => absurd h (by omega)⟩
end
def idc (t : Trip) : List Value := [.int .i64 t.x, .int .i64 t.y, .int .i64 t.z]
theorem idc_len (t : Trip) : (idc t).length = 3 := rfl
theorem idc_one : ∀ (L : List Trip), ∀ u ∈ fl idc L, u.oneCell' = true := by
 intro L u hu
 obtain ⟨t, _, hu⟩ := List.mem_flatMap.1 hu
 simp [idc] at hu
 rcases hu with rfl | rfl | rfl <;> rfl
theorem Ids_at {w wr : World} {A : Option Addr} {n c : Nat} {L : List Trip} (h : Fq idc w A n c L) (hb : Below w.heap.size w wr) {k : Nat} (hk : k < n) :
   ∃ (b off : Nat) (t : Trip), A = some ⟨b, off, none⟩ ∧ b < w.heap.size ∧ L[k]? = some t ∧ wr.cell? ⟨b, off + k * 3, none⟩ = some (.int .i64 t.x) ∧ wr.cell? ⟨b, off + k * 3 + 1, none⟩ = some (.int .i64 t.y) ∧ wr.cell? ⟨b, off + k * 3 + 2, none⟩ = some (.int .i64 t.z) := by
 obtain ⟨b, off, t, e, hlt, ht, hc⟩ := h.spot idc_len hb hk
 exact ⟨b, off, t, e, hlt, ht, hc 0 _ rfl, hc 1 _ rfl, hc 2 _ rfl⟩
end Go.Proofs.YtiohjjgncbhimaaDoor
namespace Go.Proofs.YtiohjjgncbhimaaDoor
open Go.RowKit (wrap32 wrap64 intOf Hid Below)
open Lab Lcs
theorem idsuf_take {l : List Ut} {k : Nat} {u : Ut} (h : l[k]? = some u) : (Ut.alls (l.take (k + 1))).map Ut.id = (Ut.alls (l.take k)).map Ut.id ++ u.ids := by
 rw [alls_take h, List.map_append]
 rfl
theorem ids_length (u : Ut) : u.ids.length = u.count := by
 unfold Ut.ids
 rw [List.length_map, all_length]
mutual
theorem UtC.ok {w : World} : ∀ (u : Ut) (vs : List Value), UtC w u vs → ∀ x ∈ u.all, x.id.ok ∧ inI x.kind
 | .mk id kind label head words kids, vs, h => by
   unfold UtC at h
   obtain ⟨_, _, _, _, _, _, _, _, _, _, _, _, ho, _, _, _, _, _, _, h7⟩ := h
   intro x hx
   rw [all_mk] at hx
   rcases List.mem_cons.1 hx with rfl | hx
   · exact ho
   · exact UtR.ok _ _ kids h7 x hx
theorem UtR.ok {w : World} : ∀ (b off : Nat) (l : List Ut), UtR w b off l → ∀ x ∈ Ut.alls l, x.id.ok ∧ inI x.kind
 | _, _, [], _ => by intro x hx; simp [Ut.alls] at hx
 | b, off, u :: r, h => by
   unfold UtR at h
   obtain ⟨_, ⟨vs, h1, _⟩, h3⟩ := h
   intro x hx
   simp only [Ut.alls, List.mem_append] at hx
   rcases hx with hx | hx
   · exact UtC.ok u vs h1 x hx
   · exact UtR.ok b (off + 8) r h3 x hx
end
end Go.Proofs.YtiohjjgncbhimaaDoor
namespace Go.Proofs.YtiohjjgncbhimaaDoor
open Go.RowKit (wrap32 wrap64 intOf Hid Below)
open Lab Lcs
theorem ids_mk (id : Trip) (kind : Int) (label : Str) (head words : List Wd) (kids : List Ut) : (Ut.mk id kind label head words kids).ids = id :: (Ut.alls kids).map Ut.id := by
 unfold Ut.ids
 rw [all_mk]
 rfl
theorem lit_own (w : World) (base : Nat) (hb : base ≤ w.heap.size) (t : Trip) : (w.alloc (.cells #[.int .i64 t.x, .int .i64 t.y, .int .i64 t.z] 23)).ownsRow base 23 3 (.slice (some ⟨w.heap.size, 0, none⟩) 1 1) 1 (fl idc [t]) :=
 World.ownsRow_lit w #[.int .i64 t.x, .int .i64 t.y, .int .i64 t.z] 1 hb (by decide) rfl
theorem own_mono {w : World} {base base' : Nat} {e : TypeId} {size : Nat} {v : Value} {n : Nat} {xs : List Value} (h : w.ownsRow base e size v n xs) (hb : base' ≤ base) : w.ownsRow base' e size v n xs := by
 refine ⟨h.1, ?_⟩
 rcases h.2 with h2 | ⟨g, cap, cur, h1, h2, h3⟩
 · exact Or.inl h2
 · exact Or.inr ⟨g, cap, cur, h1, Nat.le_trans hb h2, h3⟩
set_option maxHeartbeats 4000000 in
set_option maxRecDepth 100000 in
theorem rall_any (N : Nat) : ∀ (u : Ut) (v : Value) (w : World), u.count ≤ N → u.count ≤ 1000000000 → UtV w u v →
   Calls Tryd.prog 19 #[v] w fun e w' => (∃ A n c, e = .returned (.slice A n c) ∧ w'.ownsRow w.heap.size 23 3 (.slice A n c) n (fl idc u.ids)) ∧ Below w.heap.size w w' := by
 induction N with
 | zero => intro u v w hN _ _; have := count_pos u; omega
 | succ N ih =>
   intro u v w hN hM hV
   cases u with
   | mk id kind label head words kids =>
     obtain ⟨Ah, Aw, Ak, nh, ch, nw, cw, nk, ck, rfl, hok, hWh, hWw, hR⟩ := hV.open_
     have HR := Lib.hid hR
     have hnk := hR.2.1
     have hck := hR.2.2.1
     have HKl := Lib.hid hR.1
     rw [count_mk] at hN hM
     have HN := Lib.hid hN
     have HM := Lib.hid hM
     have HI := Lib.hid ih
     obtain ⟨i0, hi, hz0, hz1, hz2⟩ := info_parts info_id
     have HBx := Lib.hid (Box8.new w 27 (.int .i64 id.x) (.int .i64 id.y) (.int .i64 id.z) (.int .i64 kind) (.string label) (.slice Ah nh ch) (.slice Aw nw cw) (.slice Ak nk ck))
     obtain ⟨n0, n1, n2, n3, n4, n5, n6, n7⟩ := HBx.out
     have HOw := Lib.hid (lit_own (w.alloc (.cells #[.int .i64 id.x, .int .i64 id.y, .int .i64 id.z, .int .i64 kind, .string label, .slice Ah nh ch, .slice Aw nw cw, .slice Ak nk ck] 27)) w.heap.size (Nat.le_of_lt (alloc_lt w _)) id)
     have hEs : (w.alloc (.cells #[.int .i64 id.x, .int .i64 id.y, .int .i64 id.z, .int .i64 kind, .string label, .slice Ah nh ch, .slice Aw nw cw, .slice Ak nk ck] 27)).heap.size = w.heap.size + 1 := by simp
     have HBs : Hid (Below (w.heap.size + 1) (w.alloc (.cells #[.int .i64 id.x, .int .i64 id.y, .int .i64 id.z, .int .i64 kind, .string label, .slice Ah nh ch, .slice Aw nw cw, .slice Ak nk ck] 27)) ((w.alloc (.cells #[.int .i64 id.x, .int .i64 id.y, .int .i64 id.z, .int .i64 kind, .string label, .slice Ah nh ch, .slice Aw nw cw, .slice Ak nk ck] 27)).alloc (.cells #[.int .i64 id.x, .int .i64 id.y, .int .i64 id.z] 23))) := Lib.hid (by have h := alloc_below (w.alloc (.cells #[.int .i64 id.x, .int .i64 id.y, .int .i64 id.z, .int .i64 kind, .string label, .slice Ah nh ch, .slice Aw nw cw, .slice Ak nk ck] 27)) (.cells #[.int .i64 id.x, .int .i64 id.y, .int .i64 id.z] 23); rwa [hEs] at h)
     have HOw2 : Hid (((w.alloc (.cells #[.int .i64 id.x, .int .i64 id.y, .int .i64 id.z, .int .i64 kind, .string label, .slice Ah nh ch, .slice Aw nw cw, .slice Ak nk ck] 27)).alloc (.cells #[.int .i64 id.x, .int .i64 id.y, .int .i64 id.z] 23)).ownsRow (w.heap.size + 1) 23 3 (.slice (some ⟨w.heap.size + 1, 0, none⟩) 1 1) 1 (fl idc [id])) := Lib.hid (by
       have h := lit_own (w.alloc (.cells #[.int .i64 id.x, .int .i64 id.y, .int .i64 id.z, .int .i64 kind, .string label, .slice Ah nh ch, .slice Aw nw cw, .slice Ak nk ck] 27)) (w.heap.size + 1) (by rw [hEs]; exact Nat.le_refl _) id
       rwa [hEs] at h)
     clear hR hV ih hN hM hok hWh hWw HOw hEs
     go_enter Tryd.func19, Tryd.ntmps19
     go_wp2_with fail
     go_loopw [3, 4] (fun v i wr => ∃ (k n cc : Nat) (Av : Option Addr), k ≤ nk ∧ i = .int .i64 k ∧ v = .slice Av n cc ∧ n = 1 + Ut.counts (kids.take k) ∧ wr.ownsRow (w.heap.size + 1) 23 3 (.slice Av n cc) n (fl idc (id :: (Ut.alls (kids.take k)).map Ut.id)) ∧ Below (w.heap.size + 1) (w.alloc (.cells #[.int .i64 id.x, .int .i64 id.y, .int .i64 id.z, .int .i64 kind, .string label, .slice Ah nh ch, .slice Aw nw cw, .slice Ak nk ck] 27)) wr) (fun _ i _ => nk - (intOf i).toNat)
     case atStart => exact ⟨0, 1, 1, _, Nat.zero_le _, rfl, rfl, rfl, HOw2.out, HBs.out⟩
     case round =>
       rename World => wr
       obtain ⟨k, n, cc, Av, hk, rfl, rfl, hn, hown, hbr⟩ := hrel
       have HO := Lib.hid hown
       have HBr := Lib.hid hbr
       obtain ⟨hbw, hsz⟩ := in_box hbr
       have HSz := Lib.hid hbr.size
       obtain ⟨p0, p1, p2, p3, p4, p5, p6, p7⟩ := HBx.out.below hbr (Nat.lt_succ_self _)
       have HNn := Lib.hid hn
       clear hown hbr hn
       by_cases hlt : k < nk
       · obtain ⟨b, off, u, i1, i2, i3, kd, lb, Bh, Bw, Bk, mh, dh, mw, dw, mk, dk, rfl, hblt, hu, hUV, c0, c1, c2, c3, c4, c5, c6, c7⟩ := HR.out.at_ hbw hlt
         have hcm := counts_mem hu
         have hct := counts_take hu
         have hN := HN.out
         have hM := HM.out
         have HC := Lib.hid (HI.out u _ _ (by omega) (by omega) hUV)
         have HT := Lib.hid (idsuf_take hu)
         have HCt := Lib.hid hct
         have HCm := Lib.hid hcm
         clear hu hUV hcm hct hN hM
         go_wp2_with fail
         with_reducible refine (HC.out).mono ?_
         rintro e w2 ⟨⟨A2, n2, c2, rfl, hown2⟩, hb2⟩
         have hfq := Fq.of_own idc_len (by decide) hown2
         have HL2 : Hid (n2 = u.count) := Lib.hid (by rw [← ids_length]; exact hfq.1.symm)
         have HO2 := Lib.hid (own_below HO.out hb2)
         have HB2 := Lib.hid (HBr.out.trans (hb2.mono hsz))
         have hcells : n2 ≠ 0 := by have := count_pos u; have := HL2.out; omega
         obtain ⟨g, hA2⟩ : ∃ g, A2 = some ⟨g, 0, none⟩ := by
           obtain ⟨g, cap, hv, _⟩ := hown2.form (by omega)
           injection hv with a b c
           exact ⟨g, a⟩
         subst hA2
         have HF := Lib.hid (fun j u hj => (hown2.cellAt (g := g) j (by have h1 := (List.getElem?_eq_some_iff.1 hj).1; have h2 := hown2.1; omega)).trans hj : ∀ (j : Nat) (u_1 : Value), (fl idc u.ids)[j]? = some u_1 → w2.cell? ⟨g, j, none⟩ = some u_1)
         have HLn := Lib.hid hown2.1
         have HSz2 := Lib.hid hb2.size
         have h9 : n + n2 ≤ 1000000000 := by have := HNn.out; have := HCm.out; have := HM.out; have := HL2.out; omega
         clear hown2 hb2 hfq hcells
         go_wp2_with (at_builtin; refine wpList_append_own_at _ rfl _ _ 43 rfl (w.heap.size + 1) 23 i0 (.agg #[.int .i64 0, .int .i64 0, .int .i64 0]) 3 24 Tryd.underlying43 hi hz0 hz1 hz2 rfl (by decide) _ _ _ rfl HO2.out ⟨g, 0, none⟩ n2 c2 (fl idc u.ids) rfl HLn.out ?c1 ?c2 ?c3 ?c4 ?c5 ?_)
         case c1 => exact fun j u hj => by rw [Go.WideShapes.add_plain, Nat.zero_add]; exact HF.out j u hj
         case c2 => exact idc_one _
         case c3 => unfold maxLen; omega
         case c4 => omega
         case c5 => have h1 := HSz.out; have h2 := HSz2.out; simp at h1; omega
         intro v' w3 hown' hgrow _ _
         obtain ⟨A', c', rfl, _⟩ := own_slice hown'
         have HO' := Lib.hid hown'
         have HB3 := Lib.hid (HB2.out.grown hgrow (by have h1 := HSz.out; have h2 := HSz2.out; simp at h1; omega) (fun k hk => (HO2.out.lt k hk).1))
         clear hown' hgrow
         go_wp2_with fail
         go_roundw
         case rel => exact ⟨k + 1, n + n2, c', A', by omega, by go_num, rfl, by have := HNn.out; have := HCt.out; have := HL2.out; omega, by
           have h := HO'.out
           rw [← fl_app, List.cons_append, ← HT.out] at h
           exact h, HB3.out⟩
         case measure => simp [intOf]; omega
       · obtain rfl : k = nk := by omega
         have HT : Hid (kids.take k = kids) := Lib.hid (List.take_of_length_le (by rw [← HKl.out]; exact Nat.le_refl _))
         go_wp2_with fail
         go_ret
         exact ⟨⟨_, _, _, rfl, by
           have h := HO.out
           rw [HT.out] at h
           rw [ids_mk]
           exact own_mono h (Nat.le_succ _)⟩, hbw⟩
end Go.Proofs.YtiohjjgncbhimaaDoor
namespace Go.Proofs.YtiohjjgncbhimaaDoor
open Go.RowKit (wrap32 wrap64 intOf Hid Below)
open Lab Lcs
def TameU (x : Ut) : Prop := x.label.size ≤ 1000000 ∧ x.head.length ≤ 1000000 ∧ x.words.length ≤ 1000000
theorem empty_list {s : Str} (h : ¬ s.size = 0) : s.toList.isEmpty = false := by
 rw [ByteArray.toList_eq]
 cases hl : s.data.toList with
 | nil => exact absurd (by have := congrArg List.length hl; simpa using this) h
 | cons x l => rfl
theorem alone_many {id : Trip} {kind : Int} {label : Str} {head words : List Wd} {kids : List Ut} (h : 64 < kids.length) : aloneB (.mk id kind label head words kids) = false := by
 rw [aloneB, decide_eq_false (by omega)]
 rfl
theorem alone_book {id : Trip} {label : Str} {head words : List Wd} {kids : List Ut} (h : kids.length ≤ 64) : aloneB (.mk id 0 label head words kids) = (decide (label.size = 0) && head.isEmpty && words.isEmpty) := by
 rw [aloneB, decide_eq_true h, if_pos rfl]
 rfl
theorem alone_other {id : Trip} {kind : Int} {label : Str} {head words : List Wd} {kids : List Ut} (h : kids.length ≤ 64) (hk : ¬ kind = 0) : aloneB (.mk id kind label head words kids) = (decide (0 ≤ kind ∧ kind ≤ 7) && mayL label.data.toList && rowB head && rowB words) := by
 rw [aloneB, decide_eq_true h, if_neg hk, Bool.true_and]
 congr 3
 rw [decide_eq_decide]
 omega
theorem isEmpty_len {α : Type} (l : List α) : l.isEmpty = decide (l.length = 0) := by cases l <;> simp
end Go.Proofs.YtiohjjgncbhimaaDoor
namespace Go.Proofs.YtiohjjgncbhimaaDoor
open Go.RowKit (wrap32 wrap64 intOf Hid Below)
open Lab Lcs
open Go.Maps Go.WideMaps
def inL {α : Type} [DecidableEq α] (K : List α) (x : α) : Bool := K.any fun y => decide (y = x)
theorem inL_iff {α : Type} [DecidableEq α] {K : List α} {x : α} : inL K x = true ↔ x ∈ K := by
 unfold inL
 rw [List.any_eq_true]
 constructor
 · rintro ⟨y, hy, e⟩
   rw [decide_eq_true_eq] at e
   exact e ▸ hy
 · exact fun h => ⟨x, h, decide_eq_true rfl⟩
end Go.Proofs.YtiohjjgncbhimaaDoor
namespace Go.Proofs.YtiohjjgncbhimaaDoor
open Go.RowKit (wrap32 wrap64 intOf Hid Below)
open Lab Lcs
open Go.Maps Go.WideMaps
theorem UtV.parts {w : World} {u : Ut} {i1 i2 i3 kd : Int} {lb : Str} {a b c : Value} (h : UtV w u (.agg #[.int .i64 i1, .int .i64 i2, .int .i64 i3, .int .i64 kd, .string lb, a, b, c])) : u.id = ⟨i1, i2, i3⟩ ∧ u.kind = kd ∧ u.label = lb ∧ u.id.ok ∧ inI u.kind := by
 cases u with
 | mk id kind label head words kids =>
   obtain ⟨_, _, _, _, _, _, _, _, _, he, ho, _⟩ := h.open_
   injection he with he
   have e0 := congrArg (fun a => a[0]?) he
   have e1 := congrArg (fun a => a[1]?) he
   have e2 := congrArg (fun a => a[2]?) he
   have e3 := congrArg (fun a => a[3]?) he
   have e4 := congrArg (fun a => a[4]?) he
   simp at e0 e1 e2 e3 e4
   refine ⟨?_, e3.symm, e4.symm, ho⟩
   cases id
   simp only [Ut.id, Trip.mk.injEq]
   exact ⟨e0.symm, e1.symm, e2.symm⟩
theorem keys_take {l : List Ut} {k : Nat} {u : Ut} (h : l[k]? = some u) : (l.take (k + 1)).map keyK = (l.take k).map keyK ++ [keyK u] := by
 rw [take_one h, List.map_append]
 rfl
theorem nodup_snoc {α : Type} {l : List α} {a : α} : (l ++ [a]).Nodup ↔ l.Nodup ∧ a ∉ l := by
 rw [List.nodup_append]
 constructor
 · rintro ⟨h1, _, h3⟩
   exact ⟨h1, fun hm => h3 a hm a (by simp) rfl⟩
 · rintro ⟨h1, h2⟩
   refine ⟨h1, by simp, fun x hx y hy => ?_⟩
   rw [List.mem_singleton] at hy
   subst hy
   rintro rfl
   exact h2 hx
theorem kids_dup {id : Trip} {kind : Int} {label : Str} {head words : List Wd} {kids : List Ut} {k : Nat} {u : Ut} (hu : kids[k]? = some u) (h : inL ((kids.take k).map keyK) (keyK u) = true) : kidsB (.mk id kind label head words kids) = false := by
 unfold kidsB
 rw [Bool.and_eq_false_iff]
 right
 rw [decide_eq_false_iff_not]
 intro hn
 have h1 : kids.map keyK = (kids.take (k + 1)).map keyK ++ (kids.drop (k + 1)).map keyK := by rw [← List.map_append, List.take_append_drop]
 rw [h1, List.nodup_append, keys_take hu, nodup_snoc] at hn
 exact hn.1.2 (inL_iff.1 h)
theorem kids_kind {id : Trip} {kind : Int} {label : Str} {head words : List Wd} {kids : List Ut} {k : Nat} {u : Ut} (hu : kids[k]? = some u) (h : nestsB kind u.kind = false) : kidsB (.mk id kind label head words kids) = false := by
 unfold kidsB
 rw [Bool.and_eq_false_iff]
 left
 rw [List.all_eq_false]
 exact ⟨u, List.mem_of_getElem? hu, by rw [h]; decide⟩
def kidsTo (kind : Int) (l : List Ut) : Prop := (∀ x ∈ l, nestsB kind x.kind = true) ∧ (l.map keyK).Nodup
theorem kids_step {kind : Int} {kids : List Ut} {k : Nat} {u : Ut} (hu : kids[k]? = some u) (h : kidsTo kind (kids.take k)) (h1 : inL ((kids.take k).map keyK) (keyK u) = false) (h2 : nestsB kind u.kind = true) : kidsTo kind (kids.take (k + 1)) := by
 refine ⟨fun x hx => ?_, ?_⟩
 · rw [take_one hu] at hx
   rcases List.mem_append.1 hx with hx | hx
   · exact h.1 x hx
   · rw [List.mem_singleton.1 hx]; exact h2
 · rw [keys_take hu, nodup_snoc]
   exact ⟨h.2, fun hm => by rw [inL_iff.2 hm] at h1; cases h1⟩
theorem kids_done {id : Trip} {kind : Int} {label : Str} {head words : List Wd} {kids : List Ut} (h : kidsTo kind kids) : kidsB (.mk id kind label head words kids) = true := by
 unfold kidsB
 rw [Bool.and_eq_true]
 exact ⟨List.all_eq_true.2 h.1, decide_eq_true h.2⟩
end Go.Proofs.YtiohjjgncbhimaaDoor
namespace Go.Proofs.YtiohjjgncbhimaaDoor
open Go.RowKit (wrap32 wrap64 intOf Hid Below)
open Lab Lcs
open Go.Maps Go.WideMaps
theorem ids_snoc {l : List Trip} {k : Nat} {t : Trip} (h : l[k]? = some t) : l.take (k + 1) = l.take k ++ [t] := by
 obtain ⟨hk, he⟩ := List.getElem?_eq_some_iff.1 h
 rw [List.take_succ_eq_append_getElem hk, he]
end Go.Proofs.YtiohjjgncbhimaaDoor
namespace Go.Proofs.YtiohjjgncbhimaaDoor
open Go.RowKit (wrap32 wrap64 intOf Hid Below)
open Lab Lcs
mutual
theorem depth_count : ∀ u : Ut, u.depth + 1 ≤ u.count
 | .mk id kind label head words kids => by
   rw [depth_mk, count_mk]
   have := depths_counts kids
   omega
theorem depths_counts : ∀ l : List Ut, Ut.depths l ≤ Ut.counts l
 | [] => by simp [Ut.depths, Ut.counts]
 | u :: r => by
   have h1 := depth_count u
   have h2 := depths_counts r
   simp only [Ut.depths, Ut.counts]
   omega
end
theorem kids_counts : ∀ l : List Ut, l.length ≤ Ut.counts l
 | [] => Nat.zero_le _
 | u :: r => by
   have h1 := count_pos u
   have h2 := kids_counts r
   simp only [List.length_cons, Ut.counts]
   omega
theorem all_trans : ∀ (N : Nat) (u x : Ut), u.count ≤ N → x ∈ u.all → ∀ y ∈ x.all, y ∈ u.all
 | 0, u, _, h, _ => by have := count_pos u; omega
 | N + 1, .mk id kind label head words kids, x, h, hx => by
   intro y hy
   rw [all_mk] at hx
   rcases List.mem_cons.1 hx with rfl | hx
   · exact hy
   · obtain ⟨k, hk, hxk⟩ := mem_alls.1 hx
     obtain ⟨j, hj, rfl⟩ := List.getElem_of_mem hk
     have hlt := kid_lt (id := id) (kind := kind) (label := label) (head := head) (words := words) (List.getElem?_eq_getElem hj)
     exact kid_all (List.getElem?_eq_getElem hj) _ (all_trans N _ x (by omega) hxk y hy)
theorem kid_in {u x y : Ut} (hx : x ∈ u.all) (hy : y ∈ x.kids) : y ∈ u.all := by
 refine all_trans _ u x (Nat.le_refl _) hx y ?_
 cases x with
 | mk id kind label head words kids =>
   obtain ⟨j, hj, rfl⟩ := List.getElem_of_mem hy
   exact kid_all (List.getElem?_eq_getElem hj) _ (self_all _)
theorem sub_count : ∀ (N : Nat) (u x : Ut), u.count ≤ N → x ∈ u.all → x.count ≤ u.count
 | 0, u, _, h, _ => by have := count_pos u; omega
 | N + 1, .mk id kind label head words kids, x, h, hx => by
   rw [all_mk] at hx
   rcases List.mem_cons.1 hx with rfl | hx
   · exact Nat.le_refl _
   · obtain ⟨k, hk, hxk⟩ := mem_alls.1 hx
     obtain ⟨j, hj, rfl⟩ := List.getElem_of_mem hk
     have hlt := kid_lt (id := id) (kind := kind) (label := label) (head := head) (words := words) (List.getElem?_eq_getElem hj)
     have := sub_count N _ x (by omega) hxk
     omega
def Tame (u : Ut) : Prop := u.count ≤ 1000000000 ∧ ∀ x ∈ u.all, TameU x
theorem Tame.kids {u : Ut} (h : Tame u) : ∀ x ∈ u.all, (∀ y ∈ x.kids, y.label.size ≤ 1000000) ∧ x.kids.length ≤ 1000000000 := by
 intro x hx
 refine ⟨fun y hy => (h.2 y (kid_in hx hy)).1, ?_⟩
 have h1 := sub_count _ u x (Nat.le_refl _) hx
 have h2 := h.1
 cases x with
 | mk id kind label head words kids =>
   rw [count_mk] at h1
   have := kids_counts kids
   exact (by show kids.length ≤ 1000000000; omega)
end Go.Proofs.YtiohjjgncbhimaaDoor
