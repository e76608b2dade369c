/-
  The plain mathematics of cutting the capital letters at the end of a text: what strings.TrimRightFunc leaves, byte by byte.
-/
import Derived.Lib.TrimUEq
namespace Go.Proofs.YtfjibfdelbodjaaGreat
namespace Lab
open Go.Lib
abbrev Bs:=List UInt8
end Lab
end Go.Proofs.YtfjibfdelbodjaaGreat
