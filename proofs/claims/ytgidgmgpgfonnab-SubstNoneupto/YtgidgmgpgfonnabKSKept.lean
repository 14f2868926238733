import Derived.Test.YtgidgmgpgfonnabKSSort
/- What kept of the statements answers of lent binds that read as they did. -/
namespace Go.Proofs.Ytgidgmgpgfonnab
open Go.RowKit Go.Deep

end Go.Proofs.Ytgidgmgpgfonnab
