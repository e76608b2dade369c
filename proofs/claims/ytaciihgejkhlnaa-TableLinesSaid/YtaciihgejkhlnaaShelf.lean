/-
  DERIVED: THE SHELF's CONTRACTS AT THIS DUMP, IN PLAIN WORDS (tools/lay-plain.mjs out of 'TryShelf.lean', which tools/lay-shelf.mjs wrote): THE SAME DECLARATIONS UNDER THE SAME NAMES: 'import', 'namespace', 'open', 'def', 'theorem' AND NOTHING ELSE: no command of the shelf's: FOR A HAND-IN. Each laying: the table of numbers ('.._ren') and one theorem, a field a fact of the dump's own or the kernel's comparison; each contract: ONE APPLICATION.
-/
import Derived.Shelf.Strings.Builder1
import Derived.Shelf.Strings.Builder2
import Derived.Shelf.Strings.OnBuilder
import Derived.Shelf.Strings.BuilderF
import Derived.Shelf.Strings.Prefix
import Derived.Shelf.Bits.Mul64
import Derived.Shelf.Strings.Repeat
import Derived.Test.YtaciihgejkhlnaaProg
namespace Go.Proofs
open Go.Shelf
def Try.lays156_ren : Go.Shelf.Ren := ⟨fun | 156 => 41 | 165 => 44 | 166 => 45 | 169 => 47 | 240 => 51 | 241 => 52 | 276 => 53 | 277 => 54 | n => n, fun | 31 => 38 | 9 => 9 | 3 => 3 | 4 => 4 | 0 => 0 | 20 => 20 | 72 => 67 | 76 => 71 | 70 => 64 | 37 => 65 | 75 => 70 | 127 => 81 | 164 => 82 | 5 => 5 | 80 => 74 | n => n, fun | n => n⟩
theorem Try.lays156 : Go.Proofs.Lays.n156 Try.prog Try.lays156_ren := {
 mixed := by kernel_rfl
 f156 := Try.func41.trans (congrArg some (by kernel_rfl))
 f165 := Try.func44.trans (congrArg some (by kernel_rfl))
 f166 := Try.func45.trans (congrArg some (by kernel_rfl))
 f169 := Try.func47.trans (congrArg some (by kernel_rfl))
 f240 := Try.func51.trans (congrArg some (by kernel_rfl))
 f241 := Try.func52.trans (congrArg some (by kernel_rfl))
 f276 := Try.func53.trans (congrArg some (by kernel_rfl))
 f277 := Try.func54.trans (congrArg some (by kernel_rfl))
 t0 := Try.underlying0
 a0 := Try.isAgg0
 z0 := Try.sizeOf0
 v0 := Try.zeroValue0
 t3 := Try.underlying3
 a3 := Try.isAgg3
 z3 := Try.sizeOf3
 v3 := Try.zeroValue3
 t4 := Try.underlying4
 a4 := Try.isAgg4
 z4 := Try.sizeOf4
 v4 := Try.zeroValue4
 t9 := Try.underlying9
 a9 := Try.isAgg9
 z9 := Try.sizeOf9
 v9 := Try.zeroValue9
 t20 := Try.underlying20
 a20 := Try.isAgg20
 z20 := Try.sizeOf20
 v20 := Try.zeroValue20
 t31 := Try.underlying38
 a31 := Try.isAgg38
 z31 := Try.sizeOf38
 v31 := Try.zeroValue38
 t37 := Try.underlying65
 a37 := Try.isAgg65
 z37 := Try.sizeOf65
 v37 := Try.zeroValue65
 t70 := Try.underlying64
 a70 := Try.isAgg64
 z70 := Try.sizeOf64
 v70 := Try.zeroValue64
 t72 := Try.underlying67
 a72 := Try.isAgg67
 z72 := Try.sizeOf67
 v72 := Try.zeroValue67
 t75 := Try.underlying70
 a75 := Try.isAgg70
 z75 := Try.sizeOf70
 v75 := Try.zeroValue70
 t76 := Try.underlying71
 a76 := Try.isAgg71
 z76 := Try.sizeOf71
 v76 := Try.zeroValue71
 t127 := Try.underlying81
 a127 := Try.isAgg81
 z127 := Try.sizeOf81
 v127 := Try.zeroValue81
 t164 := Try.underlying82
 a164 := Try.isAgg82
 z164 := Try.sizeOf82
 v164 := Try.zeroValue82 }
theorem Try.Builder_Extra_156 : Builder.Extra Try.prog Try.lays156_ren := {
 sizeBuilder := by kernel_rfl
 liesBuilder := by kernel_rfl
 t5 := Try.underlying5
 a5 := Try.isAgg5
 z5 := Try.sizeOf5
 v5 := Try.zeroValue5
 infoByte := by kernel_rfl
 cellsByte := by kernel_rfl
 sizeByte := by kernel_rfl
 neB5 := by decide }
open Go.RowKit in
theorem Try.strings_Join_none (a : Option Addr) (c : Nat) (sep : ByteArray) (w : World) :
   Calls Try.prog 41 #[.slice a 0 c, .string sep] w fun e w' => e = .returned (.string ⟨#[]⟩) ∧ w' = w := Any.strings_Join_none Try.lays156 Try.Builder_Extra_156 a c sep w
open Go.RowKit in
theorem Try.strings_Join (bk o c : Nat) (xs : List ByteArray) (sep : ByteArray) (w : World) (hcells : ∀ (j : Nat) x, xs[j]? = some x → w.cell? ⟨bk, o + j, none⟩ = some (.string x)) (hbk : bk < w.heap.size) (hN : xs.length ≤ 140737488355328) (hcap : xs.length ≤ c) (hlen : (Lib.join (xs.map (·.data.toList)) sep.data.toList).length ≤ 140737488355328) :
   Calls Try.prog 41 #[.slice (some ⟨bk, o, none⟩) xs.length c, .string sep] w fun e w' => e = .returned (.string ⟨(Lib.join (xs.map (·.data.toList)) sep.data.toList).toArray⟩) ∧ Below w.heap.size w w' := Any.strings_Join Try.lays156 Try.Builder_Extra_156 bk o c xs sep w hcells hbk hN hcap hlen
def Try.lays105_ren : Go.Shelf.Ren := ⟨fun | 105 => 40 | 212 => 42 | 99 => 43 | 165 => 44 | 166 => 45 | 170 => 46 | 169 => 47 | 263 => 48 | 264 => 49 | 206 => 50 | 240 => 51 | 241 => 52 | 276 => 53 | 277 => 54 | n => n, fun | 9 => 9 | 3 => 3 | 4 => 4 | 20 => 20 | 0 => 0 | 46 => 60 | 109 => 61 | 5 => 5 | 72 => 67 | 76 => 71 | 51 => 75 | 146 => 76 | 53 => 78 | 148 => 79 | 70 => 64 | 37 => 65 | 75 => 70 | 127 => 81 | 164 => 82 | 80 => 74 | n => n, fun | n => n⟩
theorem Try.lays105 : Go.Proofs.Lays.n105 Try.prog Try.lays105_ren := {
 mixed := by kernel_rfl
 f99 := Try.func43.trans (congrArg some (by kernel_rfl))
 f105 := Try.func40.trans (congrArg some (by kernel_rfl))
 f165 := Try.func44.trans (congrArg some (by kernel_rfl))
 f166 := Try.func45.trans (congrArg some (by kernel_rfl))
 f169 := Try.func47.trans (congrArg some (by kernel_rfl))
 f170 := Try.func46.trans (congrArg some (by kernel_rfl))
 f206 := Try.func50.trans (congrArg some (by kernel_rfl))
 f212 := Try.func42.trans (congrArg some (by kernel_rfl))
 f240 := Try.func51.trans (congrArg some (by kernel_rfl))
 f241 := Try.func52.trans (congrArg some (by kernel_rfl))
 f263 := Try.func48.trans (congrArg some (by kernel_rfl))
 f264 := Try.func49.trans (congrArg some (by kernel_rfl))
 f276 := Try.func53.trans (congrArg some (by kernel_rfl))
 f277 := Try.func54.trans (congrArg some (by kernel_rfl))
 t0 := Try.underlying0
 a0 := Try.isAgg0
 z0 := Try.sizeOf0
 v0 := Try.zeroValue0
 t3 := Try.underlying3
 a3 := Try.isAgg3
 z3 := Try.sizeOf3
 v3 := Try.zeroValue3
 t4 := Try.underlying4
 a4 := Try.isAgg4
 z4 := Try.sizeOf4
 v4 := Try.zeroValue4
 t5 := Try.underlying5
 a5 := Try.isAgg5
 z5 := Try.sizeOf5
 v5 := Try.zeroValue5
 t9 := Try.underlying9
 a9 := Try.isAgg9
 z9 := Try.sizeOf9
 v9 := Try.zeroValue9
 t20 := Try.underlying20
 a20 := Try.isAgg20
 z20 := Try.sizeOf20
 v20 := Try.zeroValue20
 t37 := Try.underlying65
 a37 := Try.isAgg65
 z37 := Try.sizeOf65
 v37 := Try.zeroValue65
 t46 := Try.underlying60
 a46 := Try.isAgg60
 z46 := Try.sizeOf60
 v46 := Try.zeroValue60
 t51 := Try.underlying75
 a51 := Try.isAgg75
 z51 := Try.sizeOf75
 v51 := Try.zeroValue75
 t53 := Try.underlying78
 a53 := Try.isAgg78
 z53 := Try.sizeOf78
 v53 := Try.zeroValue78
 t70 := Try.underlying64
 a70 := Try.isAgg64
 z70 := Try.sizeOf64
 v70 := Try.zeroValue64
 t72 := Try.underlying67
 a72 := Try.isAgg67
 z72 := Try.sizeOf67
 v72 := Try.zeroValue67
 t75 := Try.underlying70
 a75 := Try.isAgg70
 z75 := Try.sizeOf70
 v75 := Try.zeroValue70
 t76 := Try.underlying71
 a76 := Try.isAgg71
 z76 := Try.sizeOf71
 v76 := Try.zeroValue71
 t109 := Try.underlying61
 a109 := Try.isAgg61
 z109 := Try.sizeOf61
 v109 := Try.zeroValue61
 t127 := Try.underlying81
 a127 := Try.isAgg81
 z127 := Try.sizeOf81
 v127 := Try.zeroValue81
 t146 := Try.underlying76
 a146 := Try.isAgg76
 z146 := Try.sizeOf76
 v146 := Try.zeroValue76
 t148 := Try.underlying79
 a148 := Try.isAgg79
 z148 := Try.sizeOf79
 v148 := Try.zeroValue79
 t164 := Try.underlying82
 a164 := Try.isAgg82
 z164 := Try.sizeOf82
 v164 := Try.zeroValue82 }
theorem Try.Builder_Extra_105 : Builder.Extra Try.prog Try.lays105_ren := {
 sizeBuilder := by kernel_rfl
 liesBuilder := by kernel_rfl
 t5 := Try.underlying5
 a5 := Try.isAgg5
 z5 := Try.sizeOf5
 v5 := Try.zeroValue5
 infoByte := by kernel_rfl
 cellsByte := by kernel_rfl
 sizeByte := by kernel_rfl
 neB5 := by decide }
open Go.RowKit Go.Lib in
theorem Try.strings_Repeat (s : ByteArray) (c : Nat) (w : World) (hc : c ≤ 9223372036854775807) (hlen : s.size * c ≤ 140737488355328) :
   Calls Try.prog 40 #[.string s, .int .i64 c] w fun e w' => e = .returned (.string ⟨(Lib.repeatL s.data.toList c).toArray⟩) ∧ Below w.heap.size w w' := Any.strings_Repeat Try.lays105 Try.Builder_Extra_105 s c w hc hlen
end Go.Proofs
