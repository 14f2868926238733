/- What the document's joins and constant answer. -/
import Derived.Test.YtokbgbbkopmngabSgOf
namespace Go.Proofs.Ytokbgbbkopmngab
open Go.RowKit Go.Deep

end Go.Proofs.Ytokbgbbkopmngab
