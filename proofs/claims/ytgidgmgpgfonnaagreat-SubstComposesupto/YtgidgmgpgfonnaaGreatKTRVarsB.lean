import Derived.Test.YtgidgmgpgfonnaaGreatKSub
/- What the document's Vars answers. -/
namespace Go.Proofs.YtgidgmgpgfonnaaGreat
open Go.RowKit Go.Deep

end Go.Proofs.YtgidgmgpgfonnaaGreat
