/-
  The contracts of Valid and IsBare.
-/
import Derived.Test.YtdkalehijilchaaKey
import Derived.Test.YtdkalehijilchaaIdt
import Derived.Test.YtdkalehijilchaaWds
namespace Go.Proofs.Ytdkalehijilchaa
open Go.RowKit (wrap32 wrap64 intOf Hid Below)
open Lab Lcs
theorem kids_counts : ∀ l : List Ut, l.length ≤ Ut.counts l
 | [] => Nat.zero_le _
 | u :: r => by
   have h1 := count_pos u
   have h2 := kids_counts r
   simp only [List.length_cons, Ut.counts]
   omega
end Go.Proofs.Ytdkalehijilchaa
