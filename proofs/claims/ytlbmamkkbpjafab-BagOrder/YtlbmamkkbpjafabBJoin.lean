/- What Join answers. -/
import Derived.Test.YtlbmamkkbpjafabBCat
namespace Go.Proofs.Ytlbmamkkbpjafab
open Go.RowKit Go.Deep

theorem bl_over {w w1 : World} (h : Below w.heap.size w w1) (o : Obj) : Below w.heap.size w (w1.alloc o) := h.alloc h.size _
end Go.Proofs.Ytlbmamkkbpjafab
