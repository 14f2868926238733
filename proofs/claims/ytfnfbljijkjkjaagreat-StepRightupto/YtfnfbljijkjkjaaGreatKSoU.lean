import Derived.Test.YtfnfbljijkjkjaaGreatKSoT
/- The walk of StepTurned. -/
namespace Go.Proofs.YtfnfbljijkjkjaaGreat
open Go.RowKit Go.Deep

end Go.Proofs.YtfnfbljijkjkjaaGreat
