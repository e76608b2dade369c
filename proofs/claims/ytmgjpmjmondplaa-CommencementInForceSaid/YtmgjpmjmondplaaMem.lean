/-
  Slices of spans in memory.
-/
import Derived.Handy
import Derived.WalkMore
import Derived.Lib.Hide
import Derived.WalkLawsBesides
import Derived.WalkSpells
import Derived.Deep.QuietTactic
import Derived.BigQuiet
import Derived.Deep.Draws
import Derived.Test.YtmgjpmjmondplaaProg
import Derived.Test.YtmgjpmjmondplaaSpans
namespace Go.Proofs.Ytmgjpmjmondplaa
open Go.RowKit (wrap32 wrap64 intOf Hid Below)
open Spans
theorem ret_bool {a b : Bool} (h : a = b) : Ending.returned (.bool a) = .returned (.bool b) := by rw [h]
theorem ret_int {k : IntKind} {a b : Int} (h : a = b) : Ending.returned (.int k a) = .returned (.int k b) := by rw [h]
def fr (L : List Sp) (k : Nat) : Int := (L.getD k (0, 0)).1
def to (L : List Sp) (k : Nat) : Int := (L.getD k (0, 0)).2
def SpansAt (B : Nat) (w : World) (A : Option Addr) (n : Nat) (L : List Sp) : Prop :=
 L.length = n ∧ (0 < n → ∃ b off, A = some ⟨b, off, none⟩ ∧ b < B ∧ ∀ k, k < n → w.cell? ⟨b, off + k * 2, none⟩ = some (.int .i64 (fr L k)) ∧ w.cell? ⟨b, off + k * 2 + 1, none⟩ = some (.int .i64 (to L k)))
theorem SpansAt.below {B : Nat} {w w' : World} {A : Option Addr} {n : Nat} {L : List Sp} (h : SpansAt B w A n L) (hb : Below B w w') : SpansAt B w' A n L :=
 ⟨h.1, fun hn => by
   obtain ⟨b, off, e, hlt, hc⟩ := h.2 hn
   exact ⟨b, off, e, hlt, fun k hk => ⟨(hb.cell (p := ⟨b, off + k * 2, none⟩) hlt).trans (hc k hk).1, (hb.cell (p := ⟨b, off + k * 2 + 1, none⟩) hlt).trans (hc k hk).2⟩⟩⟩
theorem SpansAt.mono {B B' : Nat} {w : World} {A : Option Addr} {n : Nat} {L : List Sp} (h : SpansAt B w A n L) (hB : B ≤ B') : SpansAt B' w A n L :=
 ⟨h.1, fun hn => by
   obtain ⟨b, off, e, hlt, hc⟩ := h.2 hn
   exact ⟨b, off, e, by omega, hc⟩⟩
theorem SpansAt.cells {B : Nat} {w wr : World} {A : Option Addr} {n : Nat} {L : List Sp} (h : SpansAt B w A n L) (hb : Below B w wr) {k : Nat} (hk : k < n) :
   ∃ b off, A = some ⟨b, off, none⟩ ∧ b < B ∧ wr.cell? ⟨b, off + k * 2, none⟩ = some (.int .i64 (fr L k)) ∧ wr.cell? ⟨b, off + k * 2 + 1, none⟩ = some (.int .i64 (to L k)) := by
 obtain ⟨b, off, e, hlt, hc⟩ := h.2 (by omega)
 exact ⟨b, off, e, hlt, (hb.cell (p := ⟨b, off + k * 2, none⟩) hlt).trans (hc k hk).1, (hb.cell (p := ⟨b, off + k * 2 + 1, none⟩) hlt).trans (hc k hk).2⟩
theorem drop_step (L : List Sp) (k : Nat) (hk : k < L.length) : L.drop k = (fr L k, to L k) :: L.drop (k + 1) := by
 rw [List.drop_eq_getElem_cons hk]
 congr 1
 unfold fr to
 rw [List.getD, List.getElem?_eq_getElem hk]
 rfl
def sepB : Int → List Sp → Bool
 | _, [] => true
 | lo, s :: r => decide (lo < s.1) && (decide (s.1 < s.2) && (decide (s.2 ≤ 1048577) && sepB s.2 r))
theorem sepB_iff : ∀ (L : List Sp) (lo : Int), sepB lo L = true ↔ SepL lo L
 | [], _ => by simp [sepB, SepL]
 | s :: r, lo => by simp [sepB, SepL, sepB_iff r s.2]
def validB (L : List Sp) : Bool := decide (L.length ≤ 4096) && sepB (-1) L
set_option maxHeartbeats 400000 in
theorem valid_any (L : List Sp) (n c : Nat) (A : Option Addr) (w : World) (hz : SpansAt w.heap.size w A n L) (hn : n ≤ maxLen) :
   Calls Try.prog 23 #[.slice A n c] w fun e w' => e = .returned (.bool (validB L)) ∧ Below w.heap.size w w' := by
 have HL := Lib.hid hz.1
 unfold maxLen at hn
 by_cases h : 4096 < n
 · clear hz
   go_enter Try.func23, Try.ntmps23
   go_wp2
   go_ret
   exact ⟨ret_bool (by have := HL.out; simp [validB]; omega), Below.refl _ _⟩
 · have hV : validB L = sepB (-1) L := by have := HL.out; simp [validB]; omega
   rw [hV]
   clear hV
   go_enter Try.func23, Try.ntmps23
   go_wp2
   go_loopw [3, 11] (fun s i wr => ∃ (k : Nat) (m : Int), k ≤ n ∧ i = .int .i64 k ∧ s = .int .i64 m ∧ sepB (-1) L = sepB m (L.drop k) ∧ Below w.heap.size w wr) (fun _ i _ => n - (intOf i).toNat)
   case atStart => exact ⟨0, -1, Nat.zero_le _, rfl, rfl, rfl, Below.refl _ _⟩
   case round =>
     obtain ⟨k, m, hk, rfl, rfl, hs, hb⟩ := hrel
     have HS := Lib.hid hs
     clear hs
     by_cases hlt : k < n
     · obtain ⟨b, off, rfl, hB, h1, h2⟩ := hz.cells hb hlt
       have HD := Lib.hid (drop_step L k (by have := HL.out; omega))
       have hbz := hb.size
       clear hz
       have no : ∀ p : Bool, (decide (m < fr L k) && (decide (fr L k < to L k) && (decide (to L k ≤ 1048577) && p))) = false → p = sepB (to L k) (L.drop (k + 1)) → sepB (-1) L = false := fun p hp he => by
         rw [HS.out, HD.out, sepB, ← he]; exact hp
       have HN := Lib.hid no
       clear no
       by_cases x1 : m < fr L k
       · by_cases x2 : fr L k < to L k
         · by_cases x3 : to L k ≤ 1048577
           · go_wp2
             go_roundw
             case rel => exact ⟨k + 1, to L k, by omega, by go_num, rfl, by rw [HS.out, HD.out, sepB]; simp [x1, x2, x3], hb.alloc (by omega) _⟩
             case measure => simp [intOf]; omega
           · go_wp2
             go_ret
             exact ⟨ret_bool (HN.out _ (by simp; omega) rfl).symm, hb.alloc (by omega) _⟩
         · go_wp2
           go_ret
           exact ⟨ret_bool (HN.out _ (by simp; omega) rfl).symm, hb.alloc (by omega) _⟩
       · go_wp2
         go_ret
         exact ⟨ret_bool (HN.out _ (by simp; omega) rfl).symm, hb.alloc (by omega) _⟩
     · obtain rfl : k = n := by omega
       go_wp2
       go_ret
       exact ⟨ret_bool (by rw [HS.out, List.drop_of_length_le (by have := HL.out; omega)]; rfl), hb⟩
end Go.Proofs.Ytmgjpmjmondplaa
