/- What Find answers: the program's and the document's. -/
import Derived.Test.YtkcbhbkldcebiabSigMem
namespace Go.Proofs.Ytkcbhbkldcebiab
open Go.RowKit

def FindRet (l : List Sym) (nm : ByteArray) (e : Ending) : Prop := e = .returned (.tuple #[.int .i64 (findI l nm), .bool (findB l nm)])

end Go.Proofs.Ytkcbhbkldcebiab
