/-
  Hexadecimal digits: the library's FormatUint with base 16.
-/
import Derived.Test.YtopohipcpomecaaDoorUv
import Derived.Test.YtopohipcpomecaaDoorEqs
import Derived.Test.YtopohipcpomecaaDoorAqb
import Derived.Test.YtopohipcpomecaaDoorShelf
import Derived.Lib.SmallJoins
namespace Go.Proofs.YtopohipcpomecaaDoor.Pd
open Go Go.Pv Go.RowKit Go.Proofs.YtopohipcpomecaaDoor.Pu Go.Proofs.YtopohipcpomecaaDoor.Pb
set_option linter.unusedSimpArgs false
open Lab Lcs Go.Proofs.YtopohipcpomecaaDoor
set_option maxRecDepth 10000
set_option maxHeartbeats 16000000
theorem tq_int : tdOf Tryd.prog 3 = some ⟨false, 1, [.int .i64 0], .int .i64⟩ := by kernel_rfl
theorem tq_string : tdOf Tryd.prog 9 = some ⟨false, 1, [.str ⟨#[]⟩], .str⟩ := by kernel_rfl
theorem tq_bool : tdOf Tryd.prog 4 = some ⟨false, 1, [.bool false], .bool⟩ := by kernel_rfl
theorem tq_uint8 : tdOf Tryd.prog 5 = some ⟨false, 1, [.int .u8 0], .int .u8⟩ := by kernel_rfl
theorem tq_uint64 : tdOf Tryd.prog 44 = some ⟨false, 1, [.int .u64 0], .int .u64⟩ := by kernel_rfl
theorem tq_uint : tdOf Tryd.prog 45 = some ⟨false, 1, [.int .u64 0], .int .u64⟩ := by kernel_rfl
theorem tq_s_uint8 : tdOf Tryd.prog 48 = some ⟨false, 1, [.nil], .slice 5 1 1⟩ := by kernel_rfl
theorem tq_65_uint8 : tdOf Tryd.prog 113 = some ⟨true, 65, (List.replicate 65 [.int .u8 0]).flatten, .arr 65 5 1⟩ := by kernel_rfl
theorem tq_64_uint8 : tdOf Tryd.prog 128 = some ⟨true, 64, (List.replicate 64 [.int .u8 0]).flatten, .arr 64 5 1⟩ := by kernel_rfl
def tdl : List (TypeId × TD) := [(3, ⟨false, 1, [.int .i64 0], .int .i64⟩), (9, ⟨false, 1, [.str ⟨#[]⟩], .str⟩), (4, ⟨false, 1, [.bool false], .bool⟩), (5, ⟨false, 1, [.int .u8 0], .int .u8⟩), (44, ⟨false, 1, [.int .u64 0], .int .u64⟩), (45, ⟨false, 1, [.int .u64 0], .int .u64⟩), (48, ⟨false, 1, [.nil], .slice 5 1 1⟩), (113, ⟨true, 65, (List.replicate 65 [.int .u8 0]).flatten, .arr 65 5 1⟩), (128, ⟨true, 64, (List.replicate 64 [.int .u8 0]).flatten, .arr 64 5 1⟩)]
theorem tdl_ok : AllTd Tryd.prog tdl := ⟨tq_int, tq_string, tq_bool, tq_uint8, tq_uint64, tq_uint, tq_s_uint8, tq_65_uint8, tq_64_uint8, trivial⟩
def tzs : List Int := [0, 1, 56, 2, 57, 49, 28, 3, 61, 58, 42, 50, 38, 29, 17, 4, 62, 47, 59, 36, 45, 43, 51, 22, 53, 39, 33, 30, 24, 18, 12, 5, 63, 55, 48, 27, 60, 41, 37, 16, 46, 35, 44, 21, 52, 32, 23, 11, 54, 26, 40, 15, 34, 20, 31, 10, 25, 14, 19, 9, 13, 8, 7, 6]
def glD (g : Nat) : Option (List IV) := if g = 3 then some (tzs.map (IV.int .u8)) else none
def TabD (w : World) : Prop := Lib.TabIs Tryd.prog w "internal/strconv.uint64pow10" .u64 Lib.pow10Tab
theorem TabD.below {w w' : World} (h : TabD w) (hb : Below w.heap.size w w') : TabD w' :=
 Joins.tab_stays (show Tryd.prog.globalNamed "internal/strconv.uint64pow10" = some 0 by kernel_rfl) h hb (Nat.le_refl _)
def envH : Env := ⟨glD, TabD, fun _ _ h hb => h.below hb⟩
def tbd : Tb := ⟨Pv.look tdl, eqs, glD, fun _ => [], fun _ => false, fun _ => 0⟩
theorem tbd_ok : ∀ t d, tbd.td t = some d → tdOf Tryd.prog t = some d := Pv.look_ok tdl_ok
theorem take_at {α : Type} {l : List α} {k : Nat} {x : α} (hx : l[k]? = some x) : l.take (k + 1) = l.take k ++ [x] := by rw [List.take_add_one, hx]; rfl
def dig (d : Nat) : UInt8 := UInt8.ofNat (if d < 10 then 48 + d else 87 + d)
def lowL : Nat → Nat → List UInt8
 | 0, _ => []
 | k + 1, u => dig (u / 16 ^ k % 16) :: lowL k u
theorem lowL_len : ∀ (k u : Nat), (lowL k u).length = k
 | 0, _ => rfl
 | k + 1, u => by rw [lowL, List.length_cons, lowL_len k u]
theorem lowL_zeros {k u : Nat} (h : u < 16 ^ k) : ∀ j, lowL (k + j) u = List.replicate j 48 ++ lowL k u
 | 0 => rfl
 | j + 1 => by
   have : u / 16 ^ (k + j) = 0 := Nat.div_eq_of_lt (Nat.lt_of_lt_of_le h (Nat.pow_le_pow_right (by decide) (by omega)))
   rw [← Nat.add_assoc, lowL, this, lowL_zeros h j, List.replicate_succ]
   rfl
theorem digits_of (u : Nat) : ∀ n, 1 ≤ n → u < 16 ^ n → ∃ k, 1 ≤ k ∧ k ≤ n ∧ u < 16 ^ k ∧ (k = 1 ∨ 16 ^ (k - 1) ≤ u)
 | 0, h, _ => by omega
 | 1, _, h => ⟨1, by omega, by omega, h, Or.inl rfl⟩
 | n + 2, _, h => by
   by_cases hl : u < 16 ^ (n + 1)
   · obtain ⟨k, h1, h2, h3, h4⟩ := digits_of u (n + 1) (by omega) hl
     exact ⟨k, h1, by omega, h3, h4⟩
   · exact ⟨n + 2, by omega, by omega, h, Or.inr (by show 16 ^ (n + 1) ≤ u; omega)⟩
theorem and15 {a : Nat} (h : a < 18446744073709551616) : IntKind.u64.wrap (BitVec.ofInt IntKind.u64.bits (a : Int) &&& BitVec.ofInt IntKind.u64.bits 15).toNat = ((a % 16 : Nat) : Int) := by
 have e : (BitVec.ofInt IntKind.u64.bits (a : Int) &&& BitVec.ofInt IntKind.u64.bits 15).toNat = a % 16 := by
   rw [BitVec.toNat_and]
   have e1 : (BitVec.ofInt IntKind.u64.bits (a : Int)).toNat = a := by
     rw [BitVec.toNat_ofInt]
     show ((a : Int) % ((2 ^ 64 : Nat) : Int)).toNat = a
     omega
   have e2 : (BitVec.ofInt IntKind.u64.bits 15).toNat = 2 ^ 4 - 1 := by decide
   rw [e1, e2, Nat.and_two_pow_sub_one_eq_mod]
 rw [e]
 unfold IntKind.wrap
 simp [IntKind.signed, IntKind.bits]
 omega
theorem shr4 (u j : Nat) : ((u / 16 ^ j : Nat) : Int).fdiv (2 ^ (min (4 : Int).toNat IntKind.u64.bits)) = ((u / 16 ^ (j + 1) : Nat) : Int) := by
 show ((u / 16 ^ j : Nat) : Int).fdiv 16 = _
 rw [Int.fdiv_eq_ediv_of_nonneg _ (by decide)]
 rw [Nat.pow_succ, ← Nat.div_div_eq_div_mul]
 omega
end Go.Proofs.YtopohipcpomecaaDoor.Pd
