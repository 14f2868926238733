/- Bags of the document's. -/
import Derived.Test.YtlbmamkkbpjafabBBackP
namespace Go.Proofs.Ytlbmamkkbpjafab
open Go.RowKit Go.Deep

end Go.Proofs.Ytlbmamkkbpjafab
