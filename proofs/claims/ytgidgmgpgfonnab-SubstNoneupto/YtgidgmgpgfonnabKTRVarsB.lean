import Derived.Test.YtgidgmgpgfonnabKSub
/- What the document's Vars answers. -/
namespace Go.Proofs.Ytgidgmgpgfonnab
open Go.RowKit Go.Deep

end Go.Proofs.Ytgidgmgpgfonnab
