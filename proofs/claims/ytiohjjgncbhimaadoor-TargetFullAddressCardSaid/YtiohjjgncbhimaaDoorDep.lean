/-
  Slices of strings and of integers in memory; appending to a slice of the call's own; Same and slices.Equal. Words: the contracts of isWord, Word, May, allWords and Valid. Trees of units, and how they lie in memory. What the chapter says of trees: nesting, validity, IDs, bareness, equality. Plain mathematics, of no program. The way from a unit up to the root: Find, Parent, Ancestors. Plain mathematics, of no program. A unit as a value, its kids in memory, a unit in a block of its own. The contracts of Depth, and of the reference's Count and Depth.
-/
import Derived.Handy
import Derived.WalkMore
import Derived.Lib.Hide
import Derived.WalkLawsBesides
import Derived.WalkSpells
import Derived.Deep.QuietTactic
import Derived.BigQuiet
import Derived.Deep.Draws
import Derived.StillTailTactics
import Derived.Maps.AppendAt
import Derived.Deep.AppendLies
import Derived.RegionTactic
import Derived.OwnWalk
import Derived.Test.YtiohjjgncbhimaaDoorProg
import Derived.Test.YtiohjjgncbhimaaDoorLcs
namespace Go.Proofs.YtiohjjgncbhimaaDoor
open Go.RowKit (wrap32 wrap64 intOf Hid Below)
open Lcs
def sv (L : List Str) : List Value := L.map Value.string
def ValsAt (B : Nat) (w : World) (A : Option Addr) (n : Nat) (L : List Value) : Prop :=
 L.length = n ∧ (0 < n → ∃ b off, A = some ⟨b, off, none⟩ ∧ b < B ∧ ∀ k u, L[k]? = some u → w.cell? ⟨b, off + k, none⟩ = some u)
theorem ValsAt.below {B : Nat} {w w' : World} {A : Option Addr} {n : Nat} {L : List Value} (h : ValsAt B w A n L) (hb : Below B w w') : ValsAt B w' A n L :=
 ⟨h.1, fun hn => by
   obtain ⟨b, off, e, hlt, hc⟩ := h.2 hn
   exact ⟨b, off, e, hlt, fun k u hk => (hb.cell (p := ⟨b, off + k, none⟩) hlt).trans (hc k u hk)⟩⟩
theorem ValsAt.mono {B B' : Nat} {w : World} {A : Option Addr} {n : Nat} {L : List Value} (h : ValsAt B w A n L) (hB : B ≤ B') : ValsAt B' w A n L :=
 ⟨h.1, fun hn => by
   obtain ⟨b, off, e, hlt, hc⟩ := h.2 hn
   exact ⟨b, off, e, by omega, hc⟩⟩
theorem ValsAt.nil (B : Nat) (w : World) (A : Option Addr) : ValsAt B w A 0 [] := ⟨rfl, fun h => absurd h (by omega)⟩
theorem ValsAt.addr {B : Nat} {w : World} {A : Option Addr} {n : Nat} {L : List Value} (h : ValsAt B w A n L) (hn : 0 < n) : ∃ b off, A = some ⟨b, off, none⟩ ∧ b < B := by
 obtain ⟨b, off, e, hlt, _⟩ := h.2 hn
 exact ⟨b, off, e, hlt⟩
theorem sv_at {L : List Str} {k : Nat} (hk : k < L.length) : (sv L)[k]? = some (.string (st L k)) := by
 unfold sv st
 rw [List.getElem?_map, List.getD, List.getElem?_eq_getElem hk]
 rfl
theorem sv_len (L : List Str) : (sv L).length = L.length := by simp [sv]
theorem ValsAt.str {B : Nat} {w wr : World} {A : Option Addr} {n : Nat} {L : List Str} (h : ValsAt B w A n (sv L)) (hb : Below B w wr) {k : Nat} (hk : k < n) :
   ∃ b off, A = some ⟨b, off, none⟩ ∧ b < B ∧ wr.cell? ⟨b, off + k, none⟩ = some (.string (st L k)) := by
 obtain ⟨b, off, e, hlt, hc⟩ := (h.below hb).2 (by omega)
 exact ⟨b, off, e, hlt, hc k _ (sv_at (by have := h.1; rw [sv_len] at this; omega))⟩
theorem ValsAt.of_own {w : World} {base : Nat} {e : TypeId} {A : Option Addr} {c n : Nat} {L : List Value} (h : w.ownsRow base e 1 (.slice A n c) n L) : ValsAt w.heap.size w A n L := by
 refine ⟨by have := h.1; omega, fun hn => ?_⟩
 obtain ⟨g, cap, hv, _, hlt⟩ := h.form hn
 have hA : A = some ⟨g, 0, none⟩ := by injection hv
 subst hA
 refine ⟨g, 0, rfl, hlt, fun k u hk => ?_⟩
 have h1 := h.cellAt (g := g) k (by have := (List.getElem?_eq_some_iff.1 hk).1; have := h.1; omega)
 rw [Nat.zero_add]
 exact h1.trans hk
theorem str_eq (a b : ByteArray) : (a.toList == b.toList) = decide (a = b) := by
 rw [Bool.eq_iff_iff, beq_iff_eq, decide_eq_true_eq]
 constructor
 · intro h
   rw [ByteArray.toList_eq, ByteArray.toList_eq] at h
   cases a; cases b
   simpa using h
 · rintro rfl; rfl
theorem info_str : (Tryd.prog.info? 9).map (fun i => (i.zero, i.size, i.bytes)) = some (some (.string ⟨#[]⟩), 1, 16) := by kernel_rfl
theorem own_empty (w : World) (e : TypeId) (size : Nat) : (w.alloc (.cells #[] e)).ownsRow w.heap.size e size (.slice (some ⟨w.heap.size, 0, none⟩) 0 0) 0 [] :=
 ⟨by simp, Or.inr ⟨w.heap.size, 0, #[], rfl, Nat.le_refl _, (show (w.heap.push _)[w.heap.size]? = _ by simp), Nat.le_refl _, by unfold maxLen; omega, by simp, by simp⟩⟩
theorem own_below {w w' : World} {base n size : Nat} {e : TypeId} {v : Value} {xs : List Value} (h : w.ownsRow base e size v n xs) (hb : Below w.heap.size w w') : w'.ownsRow base e size v n xs :=
 h.kept (row := none) ⟨hb.os, hb.tape, hb.output, hb.size, fun k hk _ => hb.block k hk⟩ (by
   cases hv : v.ownBlock
   · exact Or.inl rfl
   · exact Or.inr (by simp))
theorem alloc_below (w : World) (o : Obj) : Below w.heap.size w (w.alloc o) := (Below.refl _ _).alloc (Nat.le_refl _) o
theorem own_slice {w : World} {base size n : Nat} {e : TypeId} {v : Value} {xs : List Value} (h : w.ownsRow base e size v n xs) : ∃ A c, v = .slice A n c ∧ n ≤ c ∧ c ≤ 9223372036854775807 := by
 rcases h.2 with ⟨rfl, rfl⟩ | ⟨g, cap, cur, rfl, _, _, h1, h2, _⟩
 · exact ⟨_, _, rfl, by omega, by omega⟩
 · exact ⟨_, _, rfl, h1, by unfold maxLen at h2; omega⟩
def Slc (B : Nat) (w : World) (A : Option Addr) (n c : Nat) (L : List Value) : Prop := ValsAt B w A n L ∧ n ≤ c ∧ c ≤ 9223372036854775807 ∧ n ≤ 8796093022207 ∧ B ≤ w.heap.size
theorem Slc.below {B : Nat} {w w' : World} {A : Option Addr} {n c : Nat} {L : List Value} (h : Slc B w A n c L) (hb : Below w.heap.size w w') : Slc B w' A n c L :=
 ⟨h.1.below (hb.mono h.2.2.2.2), h.2.1, h.2.2.1, h.2.2.2.1, Nat.le_trans h.2.2.2.2 hb.size⟩
def Sq (w : World) (A : Option Addr) (n c : Nat) (L : List Str) : Prop := Slc w.heap.size w A n c (sv L) ∧ (0 < c → ∃ b off, A = some ⟨b, off, none⟩)
theorem Sq.below {w w' : World} {A : Option Addr} {n c : Nat} {L : List Str} (h : Sq w A n c L) (hb : Below w.heap.size w w') : Sq w' A n c L :=
 ⟨⟨(h.1.1.below hb).mono hb.size, h.1.2.1, h.1.2.2.1, h.1.2.2.2.1, Nat.le_refl _⟩, h.2⟩
theorem Sq.len {w : World} {A : Option Addr} {n c : Nat} {L : List Str} (h : Sq w A n c L) : L.length = n := by
 have := h.1.1.1
 rwa [sv_len] at this
theorem Sq.of_own {w : World} {base n c : Nat} {e : TypeId} {A : Option Addr} {L : List Str} (h : w.ownsRow base e 1 (.slice A n c) n (sv L)) (hn : n ≤ 8796093022207) : Sq w A n c L := by
 refine ⟨⟨ValsAt.of_own h, ?_, ?_, hn, Nat.le_refl _⟩, ?_⟩
 · obtain ⟨_, _, he, h1, _⟩ := own_slice h
   injection he with _ _ h3
   omega
 · obtain ⟨_, _, he, _, h1⟩ := own_slice h
   injection he with _ _ h3
   omega
 · intro hc
   rcases h.2 with ⟨he, _⟩ | ⟨g, cap, cur, he, _⟩
   · injection he with _ _ h3
     omega
   · injection he with h1 _ _
     exact ⟨g, 0, h1⟩
section
variable {P : Program} (w : World)
end
theorem below_own {base n size : Nat} {e : TypeId} {v : Value} {xs : List Value} {w W w' : World} (hown : W.ownsRow base e size v n xs) (hb : Below base w W) (hW : base ≤ W.heap.size) (hg : W.grownBy w' v.ownBlock) : Below base w w' :=
 Below.grown hb hg hW (fun k hk => (hown.lt k hk).1)
end Go.Proofs.YtiohjjgncbhimaaDoor
namespace Go.Proofs.YtiohjjgncbhimaaDoor
open Go.RowKit (wrap32 wrap64 intOf Hid Below)
open Lcs
def okB (b : UInt8) : Bool := decide (33 ≤ b.toNat ∧ b.toNat ≤ 126)
def wordB (s : Str) : Bool := decide (1 ≤ s.size ∧ s.size ≤ 24) && s.data.toList.all okB
def mayB (L : List Str) : Bool := decide (L.length ≤ 256) && L.all wordB
theorem word_size {s : Str} (h : ¬ (1 ≤ s.size ∧ s.size ≤ 24)) : wordB s = false := by
 unfold wordB
 rw [decide_eq_false h]
 rfl
theorem word_bad {s : Str} {k : Nat} (hk : k < s.size) (h : okB s[k] = false) : wordB s = false := by
 unfold wordB
 rw [Bool.and_eq_false_iff]
 right
 rw [List.all_eq_false]
 refine ⟨s[k], ?_, by rw [h]; decide⟩
 have : s[k] = s.data.toList[k]'(by simpa using hk) := rfl
 rw [this]
 exact List.getElem_mem _
theorem word_good {s : Str} (h0 : 1 ≤ s.size ∧ s.size ≤ 24) (h : ∀ c ∈ s.data.toList.take s.size, okB c = true) : wordB s = true := by
 unfold wordB
 rw [decide_eq_true h0, Bool.true_and, List.all_eq_true]
 rw [List.take_of_length_le (by simp)] at h
 exact h
theorem ok_yes {b : UInt8} (h1 : 33 ≤ (b.toNat : Int)) (h2 : (b.toNat : Int) ≤ 126) : okB b = true := by unfold okB; rw [decide_eq_true_eq]; omega
theorem ok_no {b : UInt8} (h : (b.toNat : Int) < 33 ∨ 126 < (b.toNat : Int)) : okB b = false := by unfold okB; rw [decide_eq_false_iff_not]; omega
theorem size_zero {s : Str} (h : s.size = 0) : s = ⟨#[]⟩ := by
 cases s with
 | mk a =>
   have : a.size = 0 := h
   rw [Array.size_eq_zero_iff] at this
   rw [this]
set_option maxHeartbeats 1000000 in
theorem refword_any (s : Str) (w : World) : Calls Tryd.prog 77 #[.string s] w fun e w' => e = .returned (.bool (wordB s)) ∧ w = w' := by
 by_cases h0 : s.size < 1
 · have HW := Lib.hid (word_size (s := s) (by omega))
   go_enter Tryd.func77, Tryd.ntmps77
   go_wp2
   go_ret
   exact ⟨ret_bool HW.out.symm, rfl⟩
 · by_cases h24 : s.size ≤ 24
   · have hs1 : 1 ≤ s.size := by omega
     have HS := Lib.hid (And.intro hs1 h24)
     clear h0
     go_enter Tryd.func77, Tryd.ntmps77
     go_wp2
     go_loop [3] (fun i => ∃ k : Nat, k ≤ s.size ∧ i = .int .i64 k ∧ ∀ c ∈ s.data.toList.take k, okB c = true) (fun i => s.size - (intOf i).toNat)
     case atStart => exact ⟨0, Nat.zero_le _, rfl, by intro c hc; simp at hc⟩
     case round =>
       obtain ⟨k, hk, rfl, hg⟩ := hrel
       have HG := Lib.hid hg
       clear hg
       by_cases hlt : k < s.size
       · by_cases c1 : (s[k].toNat : Int) < 33
         · have HB := Lib.hid (word_bad hlt (ok_no (Or.inl c1)))
           go_wp2
           go_ret
           exact ⟨ret_bool HB.out.symm, rfl⟩
         · by_cases c2 : 126 < (s[k].toNat : Int)
           · have HB := Lib.hid (word_bad hlt (ok_no (Or.inr c2)))
             go_wp2
             go_ret
             exact ⟨ret_bool HB.out.symm, rfl⟩
           · have HY := Lib.hid (ok_yes (b := s[k]) (by omega) (by omega))
             have HT := Lib.hid (take_snoc s k hlt)
             go_wp2
             go_round
             case rel => exact ⟨k + 1, by omega, by go_num, by
               rw [HT.out]
               intro c hc
               rcases List.mem_append.1 hc with h | h
               · exact HG.out c h
               · rw [List.mem_singleton.1 h]; exact HY.out⟩
             case measure => simp [intOf]; omega
       · obtain rfl : k = s.size := by omega
         have HY := Lib.hid (word_good HS.out HG.out)
         go_wp2
         go_ret
         exact ⟨ret_bool HY.out.symm, rfl⟩
   · have HW := Lib.hid (word_size (s := s) (by omega))
     have h24' : (24 : Int) < s.size := by omega
     go_enter Tryd.func77, Tryd.ntmps77
     go_wp2
     go_ret
     exact ⟨ret_bool HW.out.symm, rfl⟩
theorem all_bad {L : List Str} {k : Nat} (hk : k < L.length) (h : wordB (st L k) = false) : L.all wordB = false := by
 rw [List.all_eq_false]
 rw [st_eq hk] at h
 exact ⟨L[k], List.getElem_mem _, by rw [h]; decide⟩
theorem all_good {L : List Str} (h : ∀ j, j < L.length → wordB (st L j) = true) : L.all wordB = true := by
 rw [List.all_eq_true]
 intro s hs
 obtain ⟨j, hj, rfl⟩ := List.getElem_of_mem hs
 have := h j hj
 rwa [st_eq hj] at this
theorem may_many {L : List Str} (h : 256 < L.length) : mayB L = false := by
 unfold mayB
 rw [decide_eq_false (by omega)]
 rfl
theorem may_few {L : List Str} (h : L.length ≤ 256) : mayB L = L.all wordB := by
 unfold mayB
 rw [decide_eq_true h]
 rfl
set_option maxHeartbeats 1000000 in
theorem wmay_any (L : List Str) (n c : Nat) (A : Option Addr) (w : World) (hl : Sq w A n c L) :
   Calls Tryd.prog 74 #[.slice A n c] w fun e w' => e = .returned (.bool (mayB L)) ∧ w = w' := by
 have HL := Lib.hid hl
 have HLn := Lib.hid hl.len
 have hn := hl.1.2.2.2.1
 clear hl
 by_cases h256 : n ≤ 256
 · have HF := Lib.hid (may_few (L := L) (by rw [HLn.out]; exact h256))
   have HWd : Hid (∀ s W, Calls Tryd.prog 77 #[.string s] W fun e w' => e = .returned (.bool (wordB s)) ∧ W = w') := Lib.hid fun s W => refword_any s W
   go_enter Tryd.func74, Tryd.ntmps74
   go_wp2
   go_loop [3] (fun i => ∃ k : Nat, k ≤ n ∧ i = .int .i64 k ∧ ∀ j, j < k → wordB (st L j) = true) (fun i => n - (intOf i).toNat)
   case atStart => exact ⟨0, Nat.zero_le _, rfl, fun j hj => absurd hj (by omega)⟩
   case round =>
     obtain ⟨k, hk, rfl, hg⟩ := hrel
     have HG := Lib.hid hg
     clear hg
     by_cases hlt : k < n
     · obtain ⟨b, off, rfl, hB, hcell⟩ := HL.out.1.1.str (Below.refl _ _) hlt
       cases hw : wordB (st L k) with
       | false =>
         have HB := Lib.hid (all_bad (by rw [HLn.out]; exact hlt) hw)
         have HC := Lib.hid (HWd.out (st L k) w)
         rw [hw] at HC
         clear hw
         go_wp2_with (go_at_call 77; ((with_reducible refine (HC.out).mono ?_); rintro e w1 ⟨rfl, rfl⟩))
         go_ret
         exact ⟨ret_bool (by rw [HF.out, HB.out]), rfl⟩
       | true =>
         have HY := Lib.hid hw
         have HC := Lib.hid (HWd.out (st L k) w)
         rw [hw] at HC
         clear hw
         go_wp2_with (go_at_call 77; ((with_reducible refine (HC.out).mono ?_); rintro e w1 ⟨rfl, rfl⟩))
         go_round
         case rel => exact ⟨k + 1, by omega, by go_num, fun j hj => by
           by_cases h : j = k
           · subst h; exact HY.out
           · exact HG.out j (by omega)⟩
         case measure => simp [intOf]; omega
     · obtain rfl : k = n := by omega
       have HY := Lib.hid (all_good (L := L) (fun j hj => HG.out j (by rw [← HLn.out]; exact hj)))
       go_wp2
       go_ret
       exact ⟨ret_bool (by rw [HF.out, HY.out]), rfl⟩
 · have HF := Lib.hid (may_many (L := L) (by rw [HLn.out]; omega))
   go_enter Tryd.func74, Tryd.ntmps74
   go_wp2
   go_ret
   exact ⟨ret_bool (by rw [HF.out]), rfl⟩
end Go.Proofs.YtiohjjgncbhimaaDoor
namespace Go.Proofs.YtiohjjgncbhimaaDoor
open Go.RowKit (wrap32 wrap64 intOf Hid Below)
open Lcs
structure Trip where
 x : Int
 y : Int
 z : Int
 deriving DecidableEq
def inI (z : Int) : Prop := -9223372036854775808 ≤ z ∧ z ≤ 9223372036854775807
def Trip.ok (t : Trip) : Prop := inI t.x ∧ inI t.y ∧ inI t.z
structure Wd where
 text : Str
 mark : Trip
 deriving DecidableEq
inductive Ut where
 | mk (id : Trip) (kind : Int) (label : Str) (head words : List Wd) (kids : List Ut)
def wv : List Wd → List Value
 | [] => []
 | a :: r => .string a.text :: .int .i64 a.mark.x :: .int .i64 a.mark.y :: .int .i64 a.mark.z :: wv r
def Wds (w : World) (A : Option Addr) (n c : Nat) (L : List Wd) : Prop :=
 L.length = n ∧ n ≤ c ∧ c ≤ 9223372036854775807 ∧ (0 < n → ∃ b off, A = some ⟨b, off, none⟩ ∧ b < w.heap.size ∧ ∀ j u, (wv L)[j]? = some u → w.cell? ⟨b, off + j, none⟩ = some u)
theorem Wds.below {w w' : World} {A : Option Addr} {n c : Nat} {L : List Wd} (h : Wds w A n c L) (hb : Below w.heap.size w w') : Wds w' A n c L := by
 obtain ⟨h1, h2, h3, h4⟩ := h
 refine ⟨h1, h2, h3, fun hn => ?_⟩
 obtain ⟨b, off, e, hlt, hc⟩ := h4 hn
 exact ⟨b, off, e, Nat.lt_of_lt_of_le hlt hb.size, fun j u hj => (hb.cell (p := ⟨b, off + j, none⟩) hlt).trans (hc j u hj)⟩
mutual
def UtC (w : World) : Ut → List Value → Prop
 | .mk id kind label head words kids, vs => ∃ (Ah Aw Ak : Option Addr) (nh ch nw cw nk ck b off : Nat), vs = [.int .i64 id.x, .int .i64 id.y, .int .i64 id.z, .int .i64 kind, .string label, .slice Ah nh ch, .slice Aw nw cw, .slice Ak nk ck] ∧ (id.ok ∧ inI kind) ∧
     Wds w Ah nh ch head ∧ Wds w Aw nw cw words ∧ nk = kids.length ∧ nk ≤ ck ∧ ck ≤ 9223372036854775807 ∧ (0 < nk → Ak = some ⟨b, off, none⟩ ∧ b < w.heap.size) ∧ UtR w b off kids
def UtR (w : World) (b off : Nat) : List Ut → Prop
 | [] => True
 | u :: r => b < w.heap.size ∧ (∃ vs, UtC w u vs ∧ ∀ j v, vs[j]? = some v → w.cell? ⟨b, off + j, none⟩ = some v) ∧ UtR w b (off + 8) r
end
mutual
theorem UtC.below {w w' : World} (hb : Below w.heap.size w w') : ∀ (u : Ut) (vs : List Value), UtC w u vs → UtC w' u vs
 | .mk id kind label head words kids, vs, h => by
   unfold UtC at h ⊢
   obtain ⟨Ah, Aw, Ak, nh, ch, nw, cw, nk, ck, b, off, e, ho, h1, h2, h3, h4, h5, h6, h7⟩ := h
   exact ⟨Ah, Aw, Ak, nh, ch, nw, cw, nk, ck, b, off, e, ho, h1.below hb, h2.below hb, h3, h4, h5, fun hn => ⟨(h6 hn).1, Nat.lt_of_lt_of_le (h6 hn).2 hb.size⟩, UtR.below hb b off kids h7⟩
theorem UtR.below {w w' : World} (hb : Below w.heap.size w w') : ∀ (b off : Nat) (l : List Ut), UtR w b off l → UtR w' b off l
 | _, _, [], _ => by unfold UtR; trivial
 | b, off, u :: r, h => by
   unfold UtR at h ⊢
   obtain ⟨hlt, ⟨vs, h1, h2⟩, h3⟩ := h
   exact ⟨Nat.lt_of_lt_of_le hlt hb.size, ⟨vs, UtC.below hb u vs h1, fun j v hj => (hb.cell (p := ⟨b, off + j, none⟩) hlt).trans (h2 j v hj)⟩, UtR.below hb b (off + 8) r h3⟩
end
theorem UtR.at_ {w : World} {b : Nat} : ∀ {off k : Nat} {l : List Ut} {u : Ut}, UtR w b off l → l[k]? = some u → b < w.heap.size ∧ ∃ vs, UtC w u vs ∧ ∀ j v, vs[j]? = some v → w.cell? ⟨b, off + k * 8 + j, none⟩ = some v
 | _, _, [], _, _, h => by simp at h
 | off, 0, a :: r, u, h, e => by
   unfold UtR at h
   simp only [List.getElem?_cons_zero, Option.some.injEq] at e
   subst e
   obtain ⟨h1, h2, _⟩ := h
   rw [Nat.zero_mul, Nat.add_zero]
   exact ⟨h1, h2⟩
 | off, k + 1, a :: r, u, h, e => by
   unfold UtR at h
   simp only [List.getElem?_cons_succ] at e
   obtain ⟨h1, vs, h2, h3⟩ := UtR.at_ h.2.2 e
   exact ⟨h1, vs, h2, fun j v hj => by rw [show off + (k + 1) * 8 + j = off + 8 + k * 8 + j by omega]; exact h3 j v hj⟩
mutual
def Ut.count : Ut → Nat
 | .mk _ _ _ _ _ kids => 1 + Ut.counts kids
def Ut.counts : List Ut → Nat
 | [] => 0
 | u :: r => u.count + Ut.counts r
end
mutual
def Ut.depth : Ut → Nat
 | .mk _ _ _ _ _ kids => Ut.depths kids
def Ut.depths : List Ut → Nat
 | [] => 0
 | u :: r => max (1 + u.depth) (Ut.depths r)
end
mutual
def Ut.all : Ut → List Ut
 | .mk id kind label head words kids => .mk id kind label head words kids :: Ut.alls kids
def Ut.alls : List Ut → List Ut
 | [] => []
 | u :: r => u.all ++ Ut.alls r
end
end Go.Proofs.YtiohjjgncbhimaaDoor
namespace Go.Proofs.YtiohjjgncbhimaaDoor
open Lab Lcs
def Trip.zero : Trip := ⟨0, 0, 0⟩
def Ut.id : Ut → Trip
 | .mk id _ _ _ _ _ => id
def Ut.kind : Ut → Int
 | .mk _ kind _ _ _ _ => kind
def Ut.label : Ut → Str
 | .mk _ _ label _ _ _ => label
def Ut.head : Ut → List Wd
 | .mk _ _ _ head _ _ => head
def Ut.words : Ut → List Wd
 | .mk _ _ _ _ words _ => words
def Ut.kids : Ut → List Ut
 | .mk _ _ _ _ _ kids => kids
def Ut.ids (u : Ut) : List Trip := u.all.map Ut.id
theorem alls_app : ∀ a b : List Ut, Ut.alls (a ++ b) = Ut.alls a ++ Ut.alls b
 | [], _ => by simp [Ut.alls]
 | u :: r, b => by simp only [List.cons_append, Ut.alls, alls_app r b, List.append_assoc]
theorem counts_app : ∀ a b : List Ut, Ut.counts (a ++ b) = Ut.counts a + Ut.counts b
 | [], _ => by simp [Ut.counts]
 | u :: r, b => by simp only [List.cons_append, Ut.counts, counts_app r b, Nat.add_assoc]
theorem depths_app : ∀ a b : List Ut, Ut.depths (a ++ b) = max (Ut.depths a) (Ut.depths b)
 | [], _ => by simp [Ut.depths]
 | u :: r, b => by simp only [List.cons_append, Ut.depths, depths_app r b, Nat.max_assoc]
theorem alls_one (u : Ut) : Ut.alls [u] = u.all := by simp [Ut.alls]
theorem counts_one (u : Ut) : Ut.counts [u] = u.count := by simp [Ut.counts]
theorem depths_one (u : Ut) : Ut.depths [u] = 1 + u.depth := by simp [Ut.depths]
theorem take_one {l : List Ut} {k : Nat} {u : Ut} (h : l[k]? = some u) : l.take (k + 1) = l.take k ++ [u] := by
 obtain ⟨hk, he⟩ := List.getElem?_eq_some_iff.1 h
 rw [List.take_succ_eq_append_getElem hk, he]
theorem alls_take {l : List Ut} {k : Nat} {u : Ut} (h : l[k]? = some u) : Ut.alls (l.take (k + 1)) = Ut.alls (l.take k) ++ u.all := by
 rw [take_one h, alls_app, alls_one]
theorem counts_take {l : List Ut} {k : Nat} {u : Ut} (h : l[k]? = some u) : Ut.counts (l.take (k + 1)) = Ut.counts (l.take k) + u.count := by
 rw [take_one h, counts_app, counts_one]
theorem depths_take {l : List Ut} {k : Nat} {u : Ut} (h : l[k]? = some u) : Ut.depths (l.take (k + 1)) = max (Ut.depths (l.take k)) (1 + u.depth) := by
 rw [take_one h, depths_app, depths_one]
theorem counts_mem : ∀ {l : List Ut} {k : Nat} {u : Ut}, l[k]? = some u → Ut.counts (l.take k) + u.count ≤ Ut.counts l
 | [], _, _, h => by simp at h
 | a :: r, 0, u, h => by
   simp only [List.getElem?_cons_zero, Option.some.injEq] at h
   subst h
   simp [Ut.counts]
 | a :: r, k + 1, u, h => by
   simp only [List.getElem?_cons_succ] at h
   have := counts_mem h
   simp only [List.take_succ_cons, Ut.counts]
   omega
theorem count_mk (id : Trip) (kind : Int) (label : Str) (head words : List Wd) (kids : List Ut) : (Ut.mk id kind label head words kids).count = 1 + Ut.counts kids := by simp [Ut.count]
theorem depth_mk (id : Trip) (kind : Int) (label : Str) (head words : List Wd) (kids : List Ut) : (Ut.mk id kind label head words kids).depth = Ut.depths kids := by simp [Ut.depth]
theorem all_mk (id : Trip) (kind : Int) (label : Str) (head words : List Wd) (kids : List Ut) : (Ut.mk id kind label head words kids).all = .mk id kind label head words kids :: Ut.alls kids := by simp [Ut.all]
mutual
theorem all_length : ∀ u : Ut, u.all.length = u.count
 | .mk id kind label head words kids => by rw [all_mk, count_mk, List.length_cons, alls_length kids, Nat.add_comm]
theorem alls_length : ∀ l : List Ut, (Ut.alls l).length = Ut.counts l
 | [] => by simp [Ut.alls, Ut.counts]
 | u :: r => by simp only [Ut.alls, Ut.counts, List.length_append, all_length u, alls_length r]
end
theorem count_pos (u : Ut) : 1 ≤ u.count := by
 cases u with
 | mk id kind label head words kids => rw [count_mk]; omega
theorem kid_lt {id : Trip} {kind : Int} {label : Str} {head words : List Wd} {kids : List Ut} {k : Nat} {u : Ut} (h : kids[k]? = some u) : u.count < (Ut.mk id kind label head words kids).count := by
 have := counts_mem h
 rw [count_mk]
 omega
theorem mem_alls {l : List Ut} {x : Ut} : x ∈ Ut.alls l ↔ ∃ u ∈ l, x ∈ u.all := by
 induction l with
 | nil => simp [Ut.alls]
 | cons a r ih => simp only [Ut.alls, List.mem_append, ih, List.mem_cons, exists_eq_or_imp]
theorem self_all (u : Ut) : u ∈ u.all := by
 cases u with
 | mk id kind label head words kids => rw [all_mk]; exact List.mem_cons_self
theorem kid_all {id : Trip} {kind : Int} {label : Str} {head words : List Wd} {kids : List Ut} {k : Nat} {u : Ut} (h : kids[k]? = some u) : ∀ x ∈ u.all, x ∈ (Ut.mk id kind label head words kids).all := fun x hx => by
 rw [all_mk]
 exact List.mem_cons_of_mem _ (mem_alls.2 ⟨u, List.mem_of_getElem? h, hx⟩)
theorem depth_kid {l : List Ut} {k : Nat} {u : Ut} (h : l[k]? = some u) : 1 + u.depth ≤ Ut.depths l := by
 have h1 : Ut.depths l = max (Ut.depths (l.take (k + 1))) (Ut.depths (l.drop (k + 1))) := by rw [← depths_app, List.take_append_drop]
 rw [depths_take h] at h1
 omega
def nestsB (p k : Int) : Bool :=
 if p = 0 then decide (k = 1 ∨ k = 2) else if p = 1 then decide (k = 2) else if p = 2 ∨ p = 3 then decide (k = 3 ∨ k = 4 ∨ k = 7) else if p = 4 then decide (k = 5) else if p = 5 then decide (k = 6) else false
def textsOf (l : List Wd) : List Str := l.map Wd.text
def rowB (l : List Wd) : Bool := mayB (textsOf l)
def aloneB : Ut → Bool
 | .mk _ kind label head words kids => decide (kids.length ≤ 64) && (if kind = 0 then decide (label.size = 0) && head.isEmpty && words.isEmpty else decide (1 ≤ kind ∧ kind ≤ 7) && mayL label.data.toList && rowB head && rowB words)
def keyK (u : Ut) : Int × Str := (u.kind, u.label)
def kidsB : Ut → Bool
 | .mk _ kind _ _ _ kids => (kids.all fun k => nestsB kind k.kind) && decide (kids.map keyK).Nodup
def zeroIds (u : Ut) : Bool := u.all.all fun x => decide (x.id = .zero)
def idsB (u : Ut) : Bool := zeroIds u || (decide u.ids.Nodup && (decide (u.id = .zero) == decide (u.kind = 0)))
def validB (u : Ut) : Bool := decide (u.count ≤ 1024) && decide (u.depth ≤ 8) && u.all.all aloneB && u.all.all kidsB && idsB u
mutual
def sameB : Ut → Ut → Bool
 | .mk i1 k1 l1 h1 w1 c1, .mk i2 k2 l2 h2 w2 c2 => decide (i1 = i2) && decide (k1 = k2) && decide (l1 = l2) && decide (h1 = h2) && decide (w1 = w2) && sameL c1 c2
def sameL : List Ut → List Ut → Bool
 | [], [] => true
 | a :: r, b :: s => sameB a b && sameL r s
 | [], _ :: _ => false
 | _ :: _, [] => false
end
mutual
theorem same_iff : ∀ a b : Ut, sameB a b = true ↔ a = b
 | .mk i1 k1 l1 h1 w1 c1, .mk i2 k2 l2 h2 w2 c2 => by
   unfold sameB
   simp only [Bool.and_eq_true, decide_eq_true_eq, Ut.mk.injEq, sameL_iff c1 c2, and_assoc]
theorem sameL_iff : ∀ a b : List Ut, sameL a b = true ↔ a = b
 | [], [] => by simp [sameL]
 | a :: r, b :: s => by
   unfold sameL
   simp only [Bool.and_eq_true, same_iff a b, sameL_iff r s, List.cons.injEq]
 | [], _ :: _ => by simp [sameL]
 | _ :: _, [] => by simp [sameL]
end
instance : DecidableEq Ut := fun a b => decidable_of_iff (sameB a b = true) (same_iff a b)
end Go.Proofs.YtiohjjgncbhimaaDoor
namespace Go.Proofs.YtiohjjgncbhimaaDoor
open Lab Lcs
mutual
def linL (id : Trip) : Ut → List Ut
 | .mk i k l h w kids => if i = id then [.mk i k l h w kids] else if (linK id kids).isEmpty then [] else linK id kids ++ [.mk i k l h w kids]
def linK (id : Trip) : List Ut → List Ut
 | [] => []
 | u :: r => if (linL id u).isEmpty then linK id r else linL id u
end
theorem lin_self {id : Trip} {u : Ut} (h : u.id = id) : linL id u = [u] := by
 cases u with
 | mk i k l hd w kids =>
   have : i = id := h
   rw [linL, if_pos this]
theorem lin_none {id : Trip} {u : Ut} (h : u.id ≠ id) (hk : linK id u.kids = []) : linL id u = [] := by
 cases u with
 | mk i k l hd w kids =>
   have hi : ¬ i = id := h
   have hk' : linK id kids = [] := hk
   rw [linL, if_neg hi, hk']
   rfl
theorem lin_some {id : Trip} {u : Ut} (h : u.id ≠ id) (hk : linK id u.kids ≠ []) : linL id u = linK id u.kids ++ [u] := by
 cases u with
 | mk i k l hd w kids =>
   have hi : ¬ i = id := h
   have hk' : linK id kids ≠ [] := hk
   rw [linL, if_neg hi, if_neg (by simpa using hk')]
   rfl
theorem linK_app (id : Trip) : ∀ a b : List Ut, linK id a = [] → linK id (a ++ b) = linK id b
 | [], _, _ => rfl
 | u :: r, b, h => by
   rw [linK] at h
   rw [List.cons_append, linK]
   by_cases hu : (linL id u).isEmpty = true
   · rw [if_pos hu] at h ⊢
     exact linK_app id r b h
   · rw [if_neg hu] at h
     rw [h] at hu
     exact absurd rfl hu
theorem linK_step {id : Trip} {l : List Ut} {k : Nat} {u : Ut} (hl : l[k]? = some u) (h : linK id (l.take k) = []) (hu : linL id u = []) : linK id (l.take (k + 1)) = [] := by
 rw [take_one hl, linK_app id _ _ h, linK, hu]
 rfl
theorem linK_hit {id : Trip} {l : List Ut} {k : Nat} {u : Ut} (hl : l[k]? = some u) (h : linK id (l.take k) = []) (hu : linL id u ≠ []) : linK id l = linL id u := by
 have h1 : l = l.take k ++ (u :: l.drop (k + 1)) := by
   obtain ⟨hk, he⟩ := List.getElem?_eq_some_iff.1 hl
   rw [← he, List.getElem_cons_drop, List.take_append_drop]
 rw [h1, linK_app id _ _ h, linK, if_neg (by simpa using hu)]
theorem linK_none : ∀ {id : Trip} {l : List Ut}, linK id l = [] → ∀ x ∈ l, linL id x = []
 | id, [], _, x, hx => by cases hx
 | id, u :: r, h, x, hx => by
   rw [linK] at h
   by_cases hu : (linL id u).isEmpty = true
   · rw [if_pos hu] at h
     rcases List.mem_cons.1 hx with rfl | hx
     · simpa using hu
     · exact linK_none h x hx
   · rw [if_neg hu] at h
     rw [h] at hu
     exact absurd rfl hu
def parR (id : Trip) : List Ut → Trip × Int × Bool
 | _ :: p :: _ => (p.id, ((p.kids.findIdx fun k => decide (k.id = id) : Nat) : Int), true)
 | _ => (.zero, -1, false)
theorem findIdx_hit {id : Trip} {l : List Ut} {k : Nat} {u : Ut} (hl : l[k]? = some u) (h : linK id (l.take k) = []) (hu : u.id = id) : (l.findIdx fun k => decide (k.id = id)) = k := by
 obtain ⟨hk, he⟩ := List.getElem?_eq_some_iff.1 hl
 rw [List.findIdx_eq hk]
 refine ⟨by rw [he, hu]; simp, fun j hj => ?_⟩
 have hm : l[j] ∈ l.take k := by
   rw [List.mem_take_iff_getElem]
   exact ⟨j, by omega, rfl⟩
 have h1 := linK_none h _ hm
 rw [decide_eq_false_iff_not]
 intro e
 rw [lin_self e] at h1
 cases h1
theorem lin_head : ∀ (n : Nat) {id : Trip} {u : Ut}, u.count ≤ n → ∀ x r, linL id u = x :: r → x.id = id ∧ x ∈ u.all
 | 0, id, u, hn, x, r, _ => by have := count_pos u; omega
 | n + 1, id, u, hn, x, r, h => by
   by_cases hi : u.id = id
   · rw [lin_self hi] at h
     injection h with h1 _
     subst h1
     exact ⟨hi, self_all _⟩
   · by_cases hk : linK id u.kids = []
     · rw [lin_none hi hk] at h
       cases h
     · rw [lin_some hi hk] at h
       have key : ∀ (l : List Ut), (∀ y ∈ l, y.count ≤ n) → linK id l ≠ [] → ∃ y ∈ l, ∃ x r, linL id y = x :: r ∧ linK id l = x :: r := by
         intro l
         induction l with
         | nil => intro _ h; exact absurd rfl h
         | cons y l ih =>
           intro hc hne
           rw [linK] at hne ⊢
           by_cases hy : (linL id y).isEmpty = true
           · rw [if_pos hy] at hne ⊢
             obtain ⟨z, hz, q⟩ := ih (fun z hz => hc z (List.mem_cons_of_mem _ hz)) hne
             exact ⟨z, List.mem_cons_of_mem _ hz, q⟩
           · rw [if_neg hy]
             cases hl : linL id y with
             | nil => rw [hl] at hy; exact absurd rfl hy
             | cons x r => exact ⟨y, List.mem_cons_self, x, r, hl, rfl⟩
       have hkn : ∀ y ∈ u.kids, y.count ≤ n := by
         intro y hy
         obtain ⟨k, hk, rfl⟩ := List.getElem_of_mem hy
         cases u with
         | mk i kk l hd w kids =>
           exact Nat.le_of_lt_succ (Nat.lt_of_lt_of_le (kid_lt (kids := kids) (List.getElem?_eq_getElem hk)) hn)
       obtain ⟨y, hy, x', r', h1, h2⟩ := key u.kids hkn hk
       rw [h2] at h
       injection h with h3 _
       subst h3
       obtain ⟨g1, g2⟩ := lin_head n (hkn y hy) x' r' h1
       refine ⟨g1, ?_⟩
       cases u with
       | mk i kk l hd w kids =>
         obtain ⟨k, hk, rfl⟩ := List.getElem_of_mem hy
         exact kid_all (List.getElem?_eq_getElem hk) _ g2
end Go.Proofs.YtiohjjgncbhimaaDoor
namespace Go.Proofs.YtiohjjgncbhimaaDoor
open Go.RowKit (wrap32 wrap64 intOf Hid Below)
open Lab Lcs
def UtV (w : World) (u : Ut) (v : Value) : Prop := ∃ vs : List Value, v = .agg vs.toArray ∧ UtC w u vs
theorem UtV.below {w w' : World} {u : Ut} {v : Value} (h : UtV w u v) (hb : Below w.heap.size w w') : UtV w' u v := by
 obtain ⟨vs, e, h⟩ := h
 exact ⟨vs, e, UtC.below hb u vs h⟩
def Row (w : World) (A : Option Addr) (n c : Nat) (l : List Ut) : Prop :=
 n = l.length ∧ n ≤ c ∧ c ≤ 9223372036854775807 ∧ ∃ b off, (0 < n → A = some ⟨b, off, none⟩ ∧ b < w.heap.size) ∧ UtR w b off l
theorem Row.below {w w' : World} {A : Option Addr} {n c : Nat} {l : List Ut} (h : Row w A n c l) (hb : Below w.heap.size w w') : Row w' A n c l := by
 obtain ⟨h1, h2, h3, b, off, h4, h5⟩ := h
 exact ⟨h1, h2, h3, b, off, fun hn => ⟨(h4 hn).1, Nat.lt_of_lt_of_le (h4 hn).2 hb.size⟩, UtR.below hb b off l h5⟩
theorem Row.nil (w : World) (A : Option Addr) (c : Nat) (hc : c ≤ 9223372036854775807) : Row w A 0 c [] :=
 ⟨rfl, Nat.zero_le _, hc, 0, 0, fun h => absurd h (by omega), by unfold UtR; trivial⟩
theorem UtV.open_ {w : World} {id : Trip} {kind : Int} {label : Str} {head words : List Wd} {kids : List Ut} {v : Value} (h : UtV w (.mk id kind label head words kids) v) :
   ∃ (Ah Aw Ak : Option Addr) (nh ch nw cw nk ck : Nat), v = .agg #[.int .i64 id.x, .int .i64 id.y, .int .i64 id.z, .int .i64 kind, .string label, .slice Ah nh ch, .slice Aw nw cw, .slice Ak nk ck] ∧ (id.ok ∧ inI kind) ∧ Wds w Ah nh ch head ∧ Wds w Aw nw cw words ∧ Row w Ak nk ck kids := by
 obtain ⟨vs, e, h⟩ := h
 unfold UtC at h
 obtain ⟨Ah, Aw, Ak, nh, ch, nw, cw, nk, ck, b, off, rfl, ho, h1, h2, h3, h4, h5, h6, h7⟩ := h
 exact ⟨Ah, Aw, Ak, nh, ch, nw, cw, nk, ck, e, ho, h1, h2, h3, h4, h5, b, off, h6, h7⟩
theorem Row.at0 {w wr : World} {A : Option Addr} {n c : Nat} {l : List Ut} (h0 : Row w A n c l) (hb : Below w.heap.size w wr) {k : Nat} (hk : k < n) :
   ∃ (b off : Nat) (u : Ut) (i1 i2 i3 kd : Int) (lb : Str) (Ah Aw Ak : Option Addr) (nh ch nw cw nk ck : Nat), A = some ⟨b, off, none⟩ ∧ b < w.heap.size ∧ l[k]? = some u ∧
     UtV w u (.agg #[.int .i64 i1, .int .i64 i2, .int .i64 i3, .int .i64 kd, .string lb, .slice Ah nh ch, .slice Aw nw cw, .slice Ak nk ck]) ∧
     wr.cell? ⟨b, off + k * 8, none⟩ = some (.int .i64 i1) ∧ wr.cell? ⟨b, off + k * 8 + 1, none⟩ = some (.int .i64 i2) ∧ wr.cell? ⟨b, off + k * 8 + 2, none⟩ = some (.int .i64 i3) ∧ wr.cell? ⟨b, off + k * 8 + 3, none⟩ = some (.int .i64 kd) ∧
     wr.cell? ⟨b, off + k * 8 + 4, none⟩ = some (.string lb) ∧ wr.cell? ⟨b, off + k * 8 + 5, none⟩ = some (.slice Ah nh ch) ∧ wr.cell? ⟨b, off + k * 8 + 6, none⟩ = some (.slice Aw nw cw) ∧ wr.cell? ⟨b, off + k * 8 + 7, none⟩ = some (.slice Ak nk ck) := by
 obtain ⟨h1, h2, h3, b, off, h4, h5⟩ := h0
 obtain ⟨hA, hlt⟩ := h4 (by omega)
 have hu : l[k]? = some l[k] := List.getElem?_eq_getElem (by omega)
 obtain ⟨_, vs, h6, h7⟩ := UtR.at_ h5 hu
 obtain ⟨u, hue⟩ : ∃ u, u = l[k] := ⟨_, rfl⟩
 rw [← hue] at hu h6
 have hV : UtV w u (.agg vs.toArray) := ⟨vs, rfl, h6⟩
 cases u with
 | mk id kind label head words kids =>
   unfold UtC at h6
   obtain ⟨Ah, Aw, Ak, nh, ch, nw, cw, nk, ck, b', off', rfl, _⟩ := h6
   have c := fun (j : Nat) (v : Value) hj => (hb.cell (p := ⟨b, off + k * 8 + j, none⟩) hlt).trans (h7 j v hj)
   exact ⟨b, off, _, id.x, id.y, id.z, kind, label, Ah, Aw, Ak, nh, ch, nw, cw, nk, ck, hA, hlt, hu, hV, c 0 _ rfl, c 1 _ rfl, c 2 _ rfl, c 3 _ rfl, c 4 _ rfl, c 5 _ rfl, c 6 _ rfl, c 7 _ rfl⟩
theorem Row.at_ {w wr : World} {A : Option Addr} {n c : Nat} {l : List Ut} (h0 : Row w A n c l) (hb : Below w.heap.size w wr) {k : Nat} (hk : k < n) :
   ∃ (b off : Nat) (u : Ut) (i1 i2 i3 kd : Int) (lb : Str) (Ah Aw Ak : Option Addr) (nh ch nw cw nk ck : Nat), A = some ⟨b, off, none⟩ ∧ b < w.heap.size ∧ l[k]? = some u ∧
     UtV wr u (.agg #[.int .i64 i1, .int .i64 i2, .int .i64 i3, .int .i64 kd, .string lb, .slice Ah nh ch, .slice Aw nw cw, .slice Ak nk ck]) ∧
     wr.cell? ⟨b, off + k * 8, none⟩ = some (.int .i64 i1) ∧ wr.cell? ⟨b, off + k * 8 + 1, none⟩ = some (.int .i64 i2) ∧ wr.cell? ⟨b, off + k * 8 + 2, none⟩ = some (.int .i64 i3) ∧ wr.cell? ⟨b, off + k * 8 + 3, none⟩ = some (.int .i64 kd) ∧
     wr.cell? ⟨b, off + k * 8 + 4, none⟩ = some (.string lb) ∧ wr.cell? ⟨b, off + k * 8 + 5, none⟩ = some (.slice Ah nh ch) ∧ wr.cell? ⟨b, off + k * 8 + 6, none⟩ = some (.slice Aw nw cw) ∧ wr.cell? ⟨b, off + k * 8 + 7, none⟩ = some (.slice Ak nk ck) := by
 obtain ⟨b, off, u, i1, i2, i3, kd, lb, Ah, Aw, Ak, nh, ch, nw, cw, nk, ck, hA, hlt, hu, hV, hc⟩ := h0.at0 hb hk
 exact ⟨b, off, u, i1, i2, i3, kd, lb, Ah, Aw, Ak, nh, ch, nw, cw, nk, ck, hA, hlt, hu, hV.below hb, hc⟩
def Box8 (w : World) (g : Nat) (x0 x1 x2 x3 x4 x5 x6 x7 : Value) : Prop :=
 w.cell? ⟨g, 0, none⟩ = some x0 ∧ w.cell? ⟨g, 1, none⟩ = some x1 ∧ w.cell? ⟨g, 2, none⟩ = some x2 ∧ w.cell? ⟨g, 3, none⟩ = some x3 ∧ w.cell? ⟨g, 4, none⟩ = some x4 ∧ w.cell? ⟨g, 5, none⟩ = some x5 ∧ w.cell? ⟨g, 6, none⟩ = some x6 ∧ w.cell? ⟨g, 7, none⟩ = some x7
theorem Box8.new (w : World) (ty : TypeId) (x0 x1 x2 x3 x4 x5 x6 x7 : Value) : Box8 (w.alloc (.cells #[x0, x1, x2, x3, x4, x5, x6, x7] ty)) w.heap.size x0 x1 x2 x3 x4 x5 x6 x7 := by
 refine ⟨?_, ?_, ?_, ?_, ?_, ?_, ?_, ?_⟩ <;> · rw [World.cell?_alloc_at _ _ _ _ rfl]; rfl
theorem Box8.below {w w' : World} {g B : Nat} {x0 x1 x2 x3 x4 x5 x6 x7 : Value} (h : Box8 w g x0 x1 x2 x3 x4 x5 x6 x7) (hb : Below B w w') (hg : g < B) : Box8 w' g x0 x1 x2 x3 x4 x5 x6 x7 := by
 obtain ⟨h0, h1, h2, h3, h4, h5, h6, h7⟩ := h
 exact ⟨(hb.cell (p := ⟨g, 0, none⟩) hg).trans h0, (hb.cell (p := ⟨g, 1, none⟩) hg).trans h1, (hb.cell (p := ⟨g, 2, none⟩) hg).trans h2, (hb.cell (p := ⟨g, 3, none⟩) hg).trans h3, (hb.cell (p := ⟨g, 4, none⟩) hg).trans h4, (hb.cell (p := ⟨g, 5, none⟩) hg).trans h5, (hb.cell (p := ⟨g, 6, none⟩) hg).trans h6, (hb.cell (p := ⟨g, 7, none⟩) hg).trans h7⟩
theorem alloc_lt (w : World) (o : Obj) : w.heap.size < (w.alloc o).heap.size := by simp
end Go.Proofs.YtiohjjgncbhimaaDoor
namespace Go.Proofs.YtiohjjgncbhimaaDoor
open Go.RowKit (wrap32 wrap64 intOf Hid Below)
open Lab Lcs
theorem in_box {w wr : World} {o : Obj} (h : Below (w.heap.size + 1) (w.alloc o) wr) : Below w.heap.size w wr ∧ w.heap.size < wr.heap.size := by
 have h1 := alloc_below w o
 have h2 := h.size
 have h3 := alloc_lt w o
 exact ⟨h1.trans (h.mono (Nat.le_succ _)), by omega⟩
set_option maxHeartbeats 4000000 in
set_option maxRecDepth 100000 in
theorem rcount_any (N : Nat) : ∀ (u : Ut) (v : Value) (w : World), u.count ≤ N → u.count ≤ 1000000000 → UtV w u v →
   Calls Tryd.prog 50 #[v] w fun e w' => e = .returned (.int .i64 (u.count : Nat)) ∧ Below w.heap.size w w' := by
 induction N with
 | zero => intro u v w hN _ _; have := count_pos u; omega
 | succ N ih =>
   intro u v w hN hM hV
   cases u with
   | mk id kind label head words kids =>
     obtain ⟨Ah, Aw, Ak, nh, ch, nw, cw, nk, ck, rfl, hok, hWh, hWw, hR⟩ := hV.open_
     have HR := Lib.hid hR
     have hnk := hR.2.1
     have hck := hR.2.2.1
     have HKl := Lib.hid hR.1
     rw [count_mk] at hN hM ⊢
     have HN := Lib.hid hN
     have HM := Lib.hid hM
     have HI := Lib.hid ih
     clear hR hV ih hN hM hok hWh hWw
     have HBx := Lib.hid (Box8.new w 27 (.int .i64 id.x) (.int .i64 id.y) (.int .i64 id.z) (.int .i64 kind) (.string label) (.slice Ah nh ch) (.slice Aw nw cw) (.slice Ak nk ck))
     go_enter Tryd.func50, Tryd.ntmps50
     go_wp2_with fail
     go_loopw [3, 4] (fun n i wr => ∃ k : Nat, k ≤ nk ∧ i = .int .i64 k ∧ n = .int .i64 ((1 + Ut.counts (kids.take k) : Nat) : Int) ∧ Below (w.heap.size + 1) (w.alloc (.cells #[.int .i64 id.x, .int .i64 id.y, .int .i64 id.z, .int .i64 kind, .string label, .slice Ah nh ch, .slice Aw nw cw, .slice Ak nk ck] 27)) wr) (fun _ i _ => nk - (intOf i).toNat)
     case atStart => exact ⟨0, Nat.zero_le _, rfl, rfl, Below.refl _ _⟩
     case round =>
       obtain ⟨k, hk, rfl, rfl, hbr⟩ := hrel
       have HBr := Lib.hid hbr
       obtain ⟨hbw, hsz⟩ := in_box hbr
       obtain ⟨_, _, _, _, _, _, _, n7⟩ := HBx.out.below hbr (Nat.lt_succ_self _)
       clear hbr
       by_cases hlt : k < nk
       · obtain ⟨b, off, u, i1, i2, i3, kd, lb, Bh, Bw, Bk, mh, dh, mw, dw, mk, dk, rfl, hblt, hu, hUV, c0, c1, c2, c3, c4, c5, c6, c7⟩ := HR.out.at_ hbw hlt
         have hcm := counts_mem hu
         have hct := counts_take hu
         obtain ⟨a, ha⟩ : ∃ a, a = Ut.counts (kids.take k) := ⟨_, rfl⟩
         obtain ⟨d, hd⟩ : ∃ d, d = u.count := ⟨_, rfl⟩
         rw [← ha, ← hd] at hcm hct
         have hN := HN.out
         have hM := HM.out
         have had : a + d ≤ 1000000000 := by omega
         have HC := Lib.hid (HI.out u _ _ (by omega) (by omega) hUV)
         rw [← hd] at HC
         have HT := Lib.hid hct
         have g1 : IntKind.i64.wrap ((1 : Int) + a + d) = 1 + a + d := by rw [IntKind.wrap_i64]; omega
         rw [← ha]
         clear ha hd hct hcm hN hM hu hUV
         go_wp2_with (go_at_call 50; ((with_reducible refine (HC.out).mono ?_); rintro e w2 ⟨rfl, hb2⟩))
         go_roundw
         case rel => exact ⟨k + 1, by omega, by go_num, by rw [HT.out]; go_num, HBr.out.trans (hb2.mono hsz)⟩
         case measure => simp [intOf]; omega
       · obtain rfl : k = nk := by omega
         have HT : Hid (kids.take k = kids) := Lib.hid (List.take_of_length_le (by rw [← HKl.out]; exact Nat.le_refl _))
         rw [HT.out]
         go_wp2_with fail
         go_ret
         exact ⟨rfl, hbw⟩
set_option maxHeartbeats 4000000 in
set_option maxRecDepth 100000 in
theorem rdepth_any (N : Nat) : ∀ (u : Ut) (v : Value) (w : World), u.count ≤ N → u.depth ≤ 1000000000 → UtV w u v →
   Calls Tryd.prog 49 #[v] w fun e w' => e = .returned (.int .i64 (u.depth : Nat)) ∧ Below w.heap.size w w' := by
 induction N with
 | zero => intro u v w hN _ _; have := count_pos u; omega
 | succ N ih =>
   intro u v w hN hM hV
   cases u with
   | mk id kind label head words kids =>
     obtain ⟨Ah, Aw, Ak, nh, ch, nw, cw, nk, ck, rfl, hok, hWh, hWw, hR⟩ := hV.open_
     have HR := Lib.hid hR
     have hnk := hR.2.1
     have hck := hR.2.2.1
     have HKl := Lib.hid hR.1
     rw [count_mk] at hN
     rw [depth_mk] at hM ⊢
     have HN := Lib.hid hN
     have HM := Lib.hid hM
     have HI := Lib.hid ih
     clear hR hV ih hN hM hok hWh hWw
     have HBx := Lib.hid (Box8.new w 27 (.int .i64 id.x) (.int .i64 id.y) (.int .i64 id.z) (.int .i64 kind) (.string label) (.slice Ah nh ch) (.slice Aw nw cw) (.slice Ak nk ck))
     go_enter Tryd.func49, Tryd.ntmps49
     go_wp2_with fail
     go_loopw [3, 4] (fun n i wr => ∃ k : Nat, k ≤ nk ∧ i = .int .i64 k ∧ n = .int .i64 ((Ut.depths (kids.take k) : Nat) : Int) ∧ Below (w.heap.size + 1) (w.alloc (.cells #[.int .i64 id.x, .int .i64 id.y, .int .i64 id.z, .int .i64 kind, .string label, .slice Ah nh ch, .slice Aw nw cw, .slice Ak nk ck] 27)) wr) (fun _ i _ => nk - (intOf i).toNat)
     case atStart => exact ⟨0, Nat.zero_le _, rfl, rfl, Below.refl _ _⟩
     case round =>
       obtain ⟨k, hk, rfl, rfl, hbr⟩ := hrel
       have HBr := Lib.hid hbr
       obtain ⟨hbw, hsz⟩ := in_box hbr
       obtain ⟨_, _, _, _, _, _, _, n7⟩ := HBx.out.below hbr (Nat.lt_succ_self _)
       clear hbr
       by_cases hlt : k < nk
       · obtain ⟨b, off, u, i1, i2, i3, kd, lb, Bh, Bw, Bk, mh, dh, mw, dw, mk, dk, rfl, hblt, hu, hUV, c0, c1, c2, c3, c4, c5, c6, c7⟩ := HR.out.at_ hbw hlt
         have hcm := counts_mem hu
         have hdk := depth_kid hu
         have hct := depths_take hu
         obtain ⟨a, ha⟩ : ∃ a, a = Ut.depths (kids.take k) := ⟨_, rfl⟩
         obtain ⟨d, hd⟩ : ∃ d, d = u.depth := ⟨_, rfl⟩
         rw [← ha, ← hd] at hct
         rw [← hd] at hdk
         have hN := HN.out
         have hM := HM.out
         have had : d ≤ 1000000000 := by omega
         have HC := Lib.hid (HI.out u _ _ (by omega) (by omega) hUV)
         rw [← hd] at HC
         have HT := Lib.hid hct
         rw [← ha]
         clear ha hd hct hcm hdk hN hM hu hUV
         by_cases hmx : a ≤ 1 + d
         · have HE : Hid (max a (1 + d) = 1 + d) := Lib.hid (by omega)
           go_wp2_with (go_at_call 49; ((with_reducible refine (HC.out).mono ?_); rintro e w2 ⟨rfl, hb2⟩))
           all_goals go_roundw
           all_goals first
             | (case rel => exact ⟨k + 1, by omega, by go_num, by rw [HT.out, HE.out]; go_num, HBr.out.trans (hb2.mono hsz)⟩)
             | (case measure => simp [intOf]; omega)
         · have HE : Hid (max a (1 + d) = a) := Lib.hid (by omega)
           go_wp2_with (go_at_call 49; ((with_reducible refine (HC.out).mono ?_); rintro e w2 ⟨rfl, hb2⟩))
           all_goals go_roundw
           all_goals first
             | (case rel => exact ⟨k + 1, by omega, by go_num, by rw [HT.out, HE.out]; go_num, HBr.out.trans (hb2.mono hsz)⟩)
             | (case measure => simp [intOf]; omega)
       · obtain rfl : k = nk := by omega
         have HT : Hid (kids.take k = kids) := Lib.hid (List.take_of_length_le (by rw [← HKl.out]; exact Nat.le_refl _))
         rw [HT.out]
         go_wp2_with fail
         go_ret
         exact ⟨rfl, hbw⟩
end Go.Proofs.YtiohjjgncbhimaaDoor
