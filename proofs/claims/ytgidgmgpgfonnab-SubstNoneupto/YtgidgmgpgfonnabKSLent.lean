import Derived.Deep.RegionLaw
import Derived.Deep.DeepCutAuto
import Derived.BigQuiet
import Derived.Test.YtgidgmgpgfonnabKSNm
/- What lent of the statements answers: binds in new memory, with marks. -/
namespace Go.Proofs.Ytgidgmgpgfonnab
open Go.RowKit Go.Deep

theorem drew_below (w : World) : Below w.heap.size w w.drew := (Below.refl _ w).drew
theorem drew_size (w : World) : w.drew.heap.size = w.heap.size := rfl
end Go.Proofs.Ytgidgmgpgfonnab
