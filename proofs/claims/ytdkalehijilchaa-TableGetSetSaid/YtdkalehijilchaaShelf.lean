/-
  DERIVED: THE SHELF's CONTRACTS AT THIS DUMP, IN PLAIN WORDS (tools/lay-plain.mjs out of 'TryShelf.lean', which tools/lay-shelf.mjs wrote): THE SAME DECLARATIONS UNDER THE SAME NAMES: 'import', 'namespace', 'open', 'def', 'theorem' AND NOTHING ELSE: no command of the shelf's: FOR A HAND-IN. Each laying: the table of numbers ('.._ren') and one theorem, a field a fact of the dump's own or the kernel's comparison; each contract: ONE APPLICATION.
-/
import Derived.Shelf.Strings.Builder1
import Derived.Shelf.Strings.Builder2
import Derived.Shelf.Strings.OnBuilder
import Derived.Shelf.Small.Strs
import Derived.Shelf.Strings.BuilderF
import Derived.Shelf.Strings.Prefix
import Derived.Shelf.Bits.Mul64
import Derived.Shelf.Strings.Repeat
import Derived.Test.YtdkalehijilchaaProg
namespace Go.Proofs
open Go.Shelf
def Try.lays156_ren : Go.Shelf.Ren := ⟨fun | 156 => 42 | 165 => 51 | 166 => 52 | 169 => 53 | 240 => 61 | 241 => 62 | 276 => 67 | 277 => 68 | n => n, fun | 31 => 40 | 9 => 9 | 3 => 3 | 4 => 4 | 0 => 0 | 20 => 20 | 72 => 77 | 76 => 81 | 70 => 74 | 37 => 75 | 75 => 80 | 127 => 90 | 164 => 97 | 5 => 5 | 80 => 83 | n => n, fun | n => n⟩
theorem Try.lays156 : Go.Proofs.Lays.n156 Try.prog Try.lays156_ren := {
 mixed := by kernel_rfl
 f156 := Try.func42.trans (congrArg some (by kernel_rfl))
 f165 := Try.func51.trans (congrArg some (by kernel_rfl))
 f166 := Try.func52.trans (congrArg some (by kernel_rfl))
 f169 := Try.func53.trans (congrArg some (by kernel_rfl))
 f240 := Try.func61.trans (congrArg some (by kernel_rfl))
 f241 := Try.func62.trans (congrArg some (by kernel_rfl))
 f276 := Try.func67.trans (congrArg some (by kernel_rfl))
 f277 := Try.func68.trans (congrArg some (by kernel_rfl))
 t0 := Try.underlying0
 a0 := Try.isAgg0
 z0 := Try.sizeOf0
 v0 := Try.zeroValue0
 t3 := Try.underlying3
 a3 := Try.isAgg3
 z3 := Try.sizeOf3
 v3 := Try.zeroValue3
 t4 := Try.underlying4
 a4 := Try.isAgg4
 z4 := Try.sizeOf4
 v4 := Try.zeroValue4
 t9 := Try.underlying9
 a9 := Try.isAgg9
 z9 := Try.sizeOf9
 v9 := Try.zeroValue9
 t20 := Try.underlying20
 a20 := Try.isAgg20
 z20 := Try.sizeOf20
 v20 := Try.zeroValue20
 t31 := Try.underlying40
 a31 := Try.isAgg40
 z31 := Try.sizeOf40
 v31 := Try.zeroValue40
 t37 := Try.underlying75
 a37 := Try.isAgg75
 z37 := Try.sizeOf75
 v37 := Try.zeroValue75
 t70 := Try.underlying74
 a70 := Try.isAgg74
 z70 := Try.sizeOf74
 v70 := Try.zeroValue74
 t72 := Try.underlying77
 a72 := Try.isAgg77
 z72 := Try.sizeOf77
 v72 := Try.zeroValue77
 t75 := Try.underlying80
 a75 := Try.isAgg80
 z75 := Try.sizeOf80
 v75 := Try.zeroValue80
 t76 := Try.underlying81
 a76 := Try.isAgg81
 z76 := Try.sizeOf81
 v76 := Try.zeroValue81
 t127 := Try.underlying90
 a127 := Try.isAgg90
 z127 := Try.sizeOf90
 v127 := Try.zeroValue90
 t164 := Try.underlying97
 a164 := Try.isAgg97
 z164 := Try.sizeOf97
 v164 := Try.zeroValue97 }
theorem Try.Builder_Extra_156 : Builder.Extra Try.prog Try.lays156_ren := {
 sizeBuilder := by kernel_rfl
 liesBuilder := by kernel_rfl
 t5 := Try.underlying5
 a5 := Try.isAgg5
 z5 := Try.sizeOf5
 v5 := Try.zeroValue5
 infoByte := by kernel_rfl
 cellsByte := by kernel_rfl
 sizeByte := by kernel_rfl
 neB5 := by decide }
open Go.RowKit in
theorem Try.strings_Join_none (a : Option Addr) (c : Nat) (sep : ByteArray) (w : World) :
   Calls Try.prog 42 #[.slice a 0 c, .string sep] w fun e w' => e = .returned (.string ⟨#[]⟩) ∧ w' = w := Any.strings_Join_none Try.lays156 Try.Builder_Extra_156 a c sep w
open Go.RowKit in
theorem Try.strings_Join (bk o c : Nat) (xs : List ByteArray) (sep : ByteArray) (w : World) (hcells : ∀ (j : Nat) x, xs[j]? = some x → w.cell? ⟨bk, o + j, none⟩ = some (.string x)) (hbk : bk < w.heap.size) (hN : xs.length ≤ 140737488355328) (hcap : xs.length ≤ c) (hlen : (Lib.join (xs.map (·.data.toList)) sep.data.toList).length ≤ 140737488355328) :
   Calls Try.prog 42 #[.slice (some ⟨bk, o, none⟩) xs.length c, .string sep] w fun e w' => e = .returned (.string ⟨(Lib.join (xs.map (·.data.toList)) sep.data.toList).toArray⟩) ∧ Below w.heap.size w w' := Any.strings_Join Try.lays156 Try.Builder_Extra_156 bk o c xs sep w hcells hbk hN hcap hlen
def Try.lays105_ren : Go.Shelf.Ren := ⟨fun | 105 => 47 | 212 => 57 | 99 => 58 | 165 => 51 | 166 => 52 | 170 => 59 | 169 => 53 | 263 => 63 | 264 => 64 | 206 => 65 | 240 => 61 | 241 => 62 | 276 => 67 | 277 => 68 | n => n, fun | 9 => 9 | 3 => 3 | 4 => 4 | 20 => 20 | 0 => 0 | 46 => 85 | 109 => 86 | 5 => 5 | 72 => 77 | 76 => 81 | 51 => 91 | 146 => 92 | 53 => 94 | 148 => 95 | 70 => 74 | 37 => 75 | 75 => 80 | 127 => 90 | 164 => 97 | 80 => 83 | n => n, fun | n => n⟩
theorem Try.lays105 : Go.Proofs.Lays.n105 Try.prog Try.lays105_ren := {
 mixed := by kernel_rfl
 f99 := Try.func58.trans (congrArg some (by kernel_rfl))
 f105 := Try.func47.trans (congrArg some (by kernel_rfl))
 f165 := Try.func51.trans (congrArg some (by kernel_rfl))
 f166 := Try.func52.trans (congrArg some (by kernel_rfl))
 f169 := Try.func53.trans (congrArg some (by kernel_rfl))
 f170 := Try.func59.trans (congrArg some (by kernel_rfl))
 f206 := Try.func65.trans (congrArg some (by kernel_rfl))
 f212 := Try.func57.trans (congrArg some (by kernel_rfl))
 f240 := Try.func61.trans (congrArg some (by kernel_rfl))
 f241 := Try.func62.trans (congrArg some (by kernel_rfl))
 f263 := Try.func63.trans (congrArg some (by kernel_rfl))
 f264 := Try.func64.trans (congrArg some (by kernel_rfl))
 f276 := Try.func67.trans (congrArg some (by kernel_rfl))
 f277 := Try.func68.trans (congrArg some (by kernel_rfl))
 t0 := Try.underlying0
 a0 := Try.isAgg0
 z0 := Try.sizeOf0
 v0 := Try.zeroValue0
 t3 := Try.underlying3
 a3 := Try.isAgg3
 z3 := Try.sizeOf3
 v3 := Try.zeroValue3
 t4 := Try.underlying4
 a4 := Try.isAgg4
 z4 := Try.sizeOf4
 v4 := Try.zeroValue4
 t5 := Try.underlying5
 a5 := Try.isAgg5
 z5 := Try.sizeOf5
 v5 := Try.zeroValue5
 t9 := Try.underlying9
 a9 := Try.isAgg9
 z9 := Try.sizeOf9
 v9 := Try.zeroValue9
 t20 := Try.underlying20
 a20 := Try.isAgg20
 z20 := Try.sizeOf20
 v20 := Try.zeroValue20
 t37 := Try.underlying75
 a37 := Try.isAgg75
 z37 := Try.sizeOf75
 v37 := Try.zeroValue75
 t46 := Try.underlying85
 a46 := Try.isAgg85
 z46 := Try.sizeOf85
 v46 := Try.zeroValue85
 t51 := Try.underlying91
 a51 := Try.isAgg91
 z51 := Try.sizeOf91
 v51 := Try.zeroValue91
 t53 := Try.underlying94
 a53 := Try.isAgg94
 z53 := Try.sizeOf94
 v53 := Try.zeroValue94
 t70 := Try.underlying74
 a70 := Try.isAgg74
 z70 := Try.sizeOf74
 v70 := Try.zeroValue74
 t72 := Try.underlying77
 a72 := Try.isAgg77
 z72 := Try.sizeOf77
 v72 := Try.zeroValue77
 t75 := Try.underlying80
 a75 := Try.isAgg80
 z75 := Try.sizeOf80
 v75 := Try.zeroValue80
 t76 := Try.underlying81
 a76 := Try.isAgg81
 z76 := Try.sizeOf81
 v76 := Try.zeroValue81
 t109 := Try.underlying86
 a109 := Try.isAgg86
 z109 := Try.sizeOf86
 v109 := Try.zeroValue86
 t127 := Try.underlying90
 a127 := Try.isAgg90
 z127 := Try.sizeOf90
 v127 := Try.zeroValue90
 t146 := Try.underlying92
 a146 := Try.isAgg92
 z146 := Try.sizeOf92
 v146 := Try.zeroValue92
 t148 := Try.underlying95
 a148 := Try.isAgg95
 z148 := Try.sizeOf95
 v148 := Try.zeroValue95
 t164 := Try.underlying97
 a164 := Try.isAgg97
 z164 := Try.sizeOf97
 v164 := Try.zeroValue97 }
theorem Try.Builder_Extra_105 : Builder.Extra Try.prog Try.lays105_ren := {
 sizeBuilder := by kernel_rfl
 liesBuilder := by kernel_rfl
 t5 := Try.underlying5
 a5 := Try.isAgg5
 z5 := Try.sizeOf5
 v5 := Try.zeroValue5
 infoByte := by kernel_rfl
 cellsByte := by kernel_rfl
 sizeByte := by kernel_rfl
 neB5 := by decide }
open Go.RowKit Go.Lib in
theorem Try.strings_Repeat (s : ByteArray) (c : Nat) (w : World) (hc : c ≤ 9223372036854775807) (hlen : s.size * c ≤ 140737488355328) :
   Calls Try.prog 47 #[.string s, .int .i64 c] w fun e w' => e = .returned (.string ⟨(Lib.repeatL s.data.toList c).toArray⟩) ∧ Below w.heap.size w w' := Any.strings_Repeat Try.lays105 Try.Builder_Extra_105 s c w hc hlen
end Go.Proofs
