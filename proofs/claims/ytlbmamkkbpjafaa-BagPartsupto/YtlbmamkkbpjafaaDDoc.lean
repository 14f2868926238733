/- Bags of the document's. -/
import Derived.Test.YtlbmamkkbpjafaaBBackP
namespace Go.Proofs.Ytlbmamkkbpjafaa
open Go.RowKit Go.Deep

/-- A bag of the document's. -/
def DocBag (w : World) (l : List It) (e : Ending) (w' : World) : Prop := ∃ q d, e = .returned (.agg #[.slice q l.length d]) ∧ w'.ownsRow 0 60 3 (.slice q l.length d) l.length (itAll l) ∧ Below w.heap.size w w'
end Go.Proofs.Ytlbmamkkbpjafaa
