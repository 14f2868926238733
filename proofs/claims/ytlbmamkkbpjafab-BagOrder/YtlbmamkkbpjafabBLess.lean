/- What Less and Common answer. -/
import Derived.Test.YtlbmamkkbpjafabBKeep
namespace Go.Proofs.Ytlbmamkkbpjafab
open Go.RowKit Go.Deep

/-- Less and Common, of rows. -/
def lessP (l m : List It) : List It := keepP (fun y => y.2 - cntK y.1.1 m) l
def comP (l m : List It) : List It := keepP (fun y => min y.2 (cntK y.1.1 m)) l
end Go.Proofs.Ytlbmamkkbpjafab
