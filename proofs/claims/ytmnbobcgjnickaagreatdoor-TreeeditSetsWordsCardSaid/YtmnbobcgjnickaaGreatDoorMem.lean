/-
  Slices of strings and of integers in memory; appending to a slice of the call's own; Same and slices.Equal.
-/
import Derived.Handy
import Derived.WalkMore
import Derived.Lib.Hide
import Derived.WalkLawsBesides
import Derived.WalkSpells
import Derived.Deep.QuietTactic
import Derived.BigQuiet
import Derived.Deep.Draws
import Derived.StillTailTactics
import Derived.Maps.AppendAt
import Derived.Deep.AppendLies
import Derived.RegionTactic
import Derived.OwnWalk
import Derived.Test.YtmnbobcgjnickaaGreatDoorProg
import Derived.Test.YtmnbobcgjnickaaGreatDoorWc
import Derived.Test.YtmnbobcgjnickaaGreatDoorLcs
namespace Go.Proofs.YtmnbobcgjnickaaGreatDoor
open Go.RowKit (wrap32 wrap64 intOf Hid Below)
open Lcs
def sv (L : List Str) : List Value := L.map Value.string
def ValsAt (B : Nat) (w : World) (A : Option Addr) (n : Nat) (L : List Value) : Prop :=
 L.length = n ∧ (0 < n → ∃ b off, A = some ⟨b, off, none⟩ ∧ b < B ∧ ∀ k u, L[k]? = some u → w.cell? ⟨b, off + k, none⟩ = some u)
theorem ValsAt.below {B : Nat} {w w' : World} {A : Option Addr} {n : Nat} {L : List Value} (h : ValsAt B w A n L) (hb : Below B w w') : ValsAt B w' A n L :=
 ⟨h.1, fun hn => by
   obtain ⟨b, off, e, hlt, hc⟩ := h.2 hn
   exact ⟨b, off, e, hlt, fun k u hk => (hb.cell (p := ⟨b, off + k, none⟩) hlt).trans (hc k u hk)⟩⟩
theorem ValsAt.mono {B B' : Nat} {w : World} {A : Option Addr} {n : Nat} {L : List Value} (h : ValsAt B w A n L) (hB : B ≤ B') : ValsAt B' w A n L :=
 ⟨h.1, fun hn => by
   obtain ⟨b, off, e, hlt, hc⟩ := h.2 hn
   exact ⟨b, off, e, by omega, hc⟩⟩
theorem ValsAt.nil (B : Nat) (w : World) (A : Option Addr) : ValsAt B w A 0 [] := ⟨rfl, fun h => absurd h (by omega)⟩
theorem ValsAt.cut {B : Nat} {w : World} {b off n : Nat} {L : List Value} (h : ValsAt B w (some ⟨b, off, none⟩) n L) (i m : Nat) (hm : i + m ≤ n) : ValsAt B w (some ⟨b, off + i, none⟩) m ((L.drop i).take m) := by
 refine ⟨by rw [List.length_take, List.length_drop, h.1]; omega, fun hn => ?_⟩
 obtain ⟨b', off', e, hlt, hc⟩ := h.2 (by omega)
 obtain ⟨rfl, rfl⟩ : b = b' ∧ off = off' := by simpa using e
 refine ⟨b, off + i, rfl, hlt, fun k u hk => ?_⟩
 have hk' : L[i + k]? = some u := by
   rw [List.getElem?_take] at hk
   split at hk
   · rw [List.getElem?_drop] at hk; exact hk
   · cases hk
 rw [show off + i + k = off + (i + k) by omega]
 exact hc _ u hk'
theorem ValsAt.addr {B : Nat} {w : World} {A : Option Addr} {n : Nat} {L : List Value} (h : ValsAt B w A n L) (hn : 0 < n) : ∃ b off, A = some ⟨b, off, none⟩ ∧ b < B := by
 obtain ⟨b, off, e, hlt, _⟩ := h.2 hn
 exact ⟨b, off, e, hlt⟩
theorem sv_at {L : List Str} {k : Nat} (hk : k < L.length) : (sv L)[k]? = some (.string (st L k)) := by
 unfold sv st
 rw [List.getElem?_map, List.getD, List.getElem?_eq_getElem hk]
 rfl
theorem sv_len (L : List Str) : (sv L).length = L.length := by simp [sv]
theorem ValsAt.str {B : Nat} {w wr : World} {A : Option Addr} {n : Nat} {L : List Str} (h : ValsAt B w A n (sv L)) (hb : Below B w wr) {k : Nat} (hk : k < n) :
   ∃ b off, A = some ⟨b, off, none⟩ ∧ b < B ∧ wr.cell? ⟨b, off + k, none⟩ = some (.string (st L k)) := by
 obtain ⟨b, off, e, hlt, hc⟩ := (h.below hb).2 (by omega)
 exact ⟨b, off, e, hlt, hc k _ (sv_at (by have := h.1; rw [sv_len] at this; omega))⟩
theorem ValsAt.of_own {w : World} {base : Nat} {e : TypeId} {A : Option Addr} {c n : Nat} {L : List Value} (h : w.ownsRow base e 1 (.slice A n c) n L) : ValsAt w.heap.size w A n L := by
 refine ⟨by have := h.1; omega, fun hn => ?_⟩
 obtain ⟨g, cap, hv, _, hlt⟩ := h.form hn
 have hA : A = some ⟨g, 0, none⟩ := by injection hv
 subst hA
 refine ⟨g, 0, rfl, hlt, fun k u hk => ?_⟩
 have h1 := h.cellAt (g := g) k (by have := (List.getElem?_eq_some_iff.1 hk).1; have := h.1; omega)
 rw [Nat.zero_add]
 exact h1.trans hk
theorem str_eq (a b : ByteArray) : (a.toList == b.toList) = decide (a = b) := by
 rw [Bool.eq_iff_iff, beq_iff_eq, decide_eq_true_eq]
 constructor
 · intro h
   rw [ByteArray.toList_eq, ByteArray.toList_eq] at h
   cases a; cases b
   simpa using h
 · rintro rfl; rfl
theorem info_str : (Tryz.prog.info? 9).map (fun i => (i.zero, i.size, i.bytes)) = some (some (.string ⟨#[]⟩), 1, 16) := by kernel_rfl
theorem own_empty (w : World) (e : TypeId) (size : Nat) : (w.alloc (.cells #[] e)).ownsRow w.heap.size e size (.slice (some ⟨w.heap.size, 0, none⟩) 0 0) 0 [] :=
 ⟨by simp, Or.inr ⟨w.heap.size, 0, #[], rfl, Nat.le_refl _, (show (w.heap.push _)[w.heap.size]? = _ by simp), Nat.le_refl _, by unfold maxLen; omega, by simp, by simp⟩⟩
theorem own_below {w w' : World} {base n size : Nat} {e : TypeId} {v : Value} {xs : List Value} (h : w.ownsRow base e size v n xs) (hb : Below w.heap.size w w') : w'.ownsRow base e size v n xs :=
 h.kept (row := none) ⟨hb.os, hb.tape, hb.output, hb.size, fun k hk _ => hb.block k hk⟩ (by
   cases hv : v.ownBlock
   · exact Or.inl rfl
   · exact Or.inr (by simp))
theorem alloc_below (w : World) (o : Obj) : Below w.heap.size w (w.alloc o) := (Below.refl _ _).alloc (Nat.le_refl _) o
theorem own_slice {w : World} {base size n : Nat} {e : TypeId} {v : Value} {xs : List Value} (h : w.ownsRow base e size v n xs) : ∃ A c, v = .slice A n c ∧ n ≤ c ∧ c ≤ 9223372036854775807 := by
 rcases h.2 with ⟨rfl, rfl⟩ | ⟨g, cap, cur, rfl, _, _, h1, h2, _⟩
 · exact ⟨_, _, rfl, by omega, by omega⟩
 · exact ⟨_, _, rfl, h1, by unfold maxLen at h2; omega⟩
def Slc (B : Nat) (w : World) (A : Option Addr) (n c : Nat) (L : List Value) : Prop := ValsAt B w A n L ∧ n ≤ c ∧ c ≤ 9223372036854775807 ∧ n ≤ 8796093022207 ∧ B ≤ w.heap.size
theorem Slc.below {B : Nat} {w w' : World} {A : Option Addr} {n c : Nat} {L : List Value} (h : Slc B w A n c L) (hb : Below w.heap.size w w') : Slc B w' A n c L :=
 ⟨h.1.below (hb.mono h.2.2.2.2), h.2.1, h.2.2.1, h.2.2.2.1, Nat.le_trans h.2.2.2.2 hb.size⟩
def Sq (w : World) (A : Option Addr) (n c : Nat) (L : List Str) : Prop := Slc w.heap.size w A n c (sv L) ∧ (0 < c → ∃ b off, A = some ⟨b, off, none⟩)
theorem Sq.below {w w' : World} {A : Option Addr} {n c : Nat} {L : List Str} (h : Sq w A n c L) (hb : Below w.heap.size w w') : Sq w' A n c L :=
 ⟨⟨(h.1.1.below hb).mono hb.size, h.1.2.1, h.1.2.2.1, h.1.2.2.2.1, Nat.le_refl _⟩, h.2⟩
theorem Sq.len {w : World} {A : Option Addr} {n c : Nat} {L : List Str} (h : Sq w A n c L) : L.length = n := by
 have := h.1.1.1
 rwa [sv_len] at this
theorem Sq.of_own {w : World} {base n c : Nat} {e : TypeId} {A : Option Addr} {L : List Str} (h : w.ownsRow base e 1 (.slice A n c) n (sv L)) (hn : n ≤ 8796093022207) : Sq w A n c L := by
 refine ⟨⟨ValsAt.of_own h, ?_, ?_, hn, Nat.le_refl _⟩, ?_⟩
 · obtain ⟨_, _, he, h1, _⟩ := own_slice h
   injection he with _ _ h3
   omega
 · obtain ⟨_, _, he, _, h1⟩ := own_slice h
   injection he with _ _ h3
   omega
 · intro hc
   rcases h.2 with ⟨he, _⟩ | ⟨g, cap, cur, he, _⟩
   · injection he with _ _ h3
     omega
   · injection he with h1 _ _
     exact ⟨g, 0, h1⟩
section
variable {P : Program} (w : World)
end
theorem below_own {base n size : Nat} {e : TypeId} {v : Value} {xs : List Value} {w W w' : World} (hown : W.ownsRow base e size v n xs) (hb : Below base w W) (hW : base ≤ W.heap.size) (hg : W.grownBy w' v.ownBlock) : Below base w w' :=
 Below.grown hb hg hW (fun k hk => (hown.lt k hk).1)
end Go.Proofs.YtmnbobcgjnickaaGreatDoor
