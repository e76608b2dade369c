/-
  Words: the contracts of isWord, Word, May, allWords and Valid.
-/
import Derived.Test.YtdkalehijilchaaMem
namespace Go.Proofs.Ytdkalehijilchaa
open Go.RowKit (wrap32 wrap64 intOf Hid Below)
open Lcs
def okB (b : UInt8) : Bool := decide (33 ≤ b.toNat ∧ b.toNat ≤ 126)
def wordB (s : Str) : Bool := decide (1 ≤ s.size ∧ s.size ≤ 24) && s.data.toList.all okB
def mayB (L : List Str) : Bool := decide (L.length ≤ 256) && L.all wordB
end Go.Proofs.Ytdkalehijilchaa
