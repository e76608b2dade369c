/-
  A contract of the elder kind: the reference's May.
-/
import Derived.Test.YtiohjjgncbhimaaDoorBr
import Derived.Test.YtiohjjgncbhimaaDoorRmy
namespace Go.Proofs.YtiohjjgncbhimaaDoor.Pk
open Go Go.Pv Go.RowKit Lab Lcs Go.Proofs.YtiohjjgncbhimaaDoor Go.Proofs.YtiohjjgncbhimaaDoor.Pu
theorem rmay_pc (u : Ut) (hok : okU u) (hM : Tame u) : PC Tryd.prog envU 33 [uv u] [.bool (validB u)] :=
 lift_bool (enters_of Tryd.func33 rfl rfl) fun Q w vs hQ hR hvs => by
   unfold RepIs at hvs
   obtain ⟨v, r, rfl, h1, h2⟩ := hvs
   unfold RepIs at h2
   subst h2
   exact rmay_any u v w (utv_to hQ hok h1) hM
end Go.Proofs.YtiohjjgncbhimaaDoor.Pk
