/- What Find answers: the program's and the document's. -/
import Derived.Test.YtokbgbbkopmngabSigMem
namespace Go.Proofs.Ytokbgbbkopmngab
open Go.RowKit

def FindRet (l : List Sym) (nm : ByteArray) (e : Ending) : Prop := e = .returned (.tuple #[.int .i64 (findI l nm), .bool (findB l nm)])

end Go.Proofs.Ytokbgbbkopmngab
