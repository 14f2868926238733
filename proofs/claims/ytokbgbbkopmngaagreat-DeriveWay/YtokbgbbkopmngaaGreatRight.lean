/- What rightArity, rightUnit and checkSymbol answer. -/
import Derived.Test.YtokbgbbkopmngaaGreatFind
namespace Go.Proofs.YtokbgbbkopmngaaGreat
open Go.RowKit

def unitB2 (l : List Sym) (x : Sym) : Bool := if x.kind = 3 then l.any (fun y => isUnit x y && emptyB y.unit) else emptyB x.unit
end Go.Proofs.YtokbgbbkopmngaaGreat
