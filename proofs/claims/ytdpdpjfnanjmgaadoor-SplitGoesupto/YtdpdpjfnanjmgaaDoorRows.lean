/-
  NARROWER THAN 'FOR EVERY INPUT', by the rows' own cells (each row's printed sentence says how): SplitNames: laid · SplitGoes: laid · SplitAdds: laid · SplitKinds: laid · SplitWhoever: laid.
  DERIVED. THE GIVEN ROWS OF THIS SEAT. 5 by the template 'for every input the law returns true; each argument reads behind the call as it read before'; 0 by the template 'total and deterministic' (their statements: YtdpdpjfnanjmgaaDoorTotals.lean).
  GIVEN WITH THE SEED: the statements are not yours to turn. If you find one false, say at which input.
  Laid BY PROGRAM, IN A SANDBOX (cutbox-rows.mjs): the forced cells as the released guide's own fill.sh prints them over the translation 2e796f7ede104a97… (all of the seat's roots in one cut). By AI agents, Wed Nov 11 2026. No macro, syntax, notation, axiom, sorry.
-/
import Derived.Test.YtdpdpjfnanjmgaaDoorChecked
import GoSem.Claim
import GoSem.ClaimJoined
import GoSem.ClaimMapViews
import Derived.JoinedTies
import Derived.KernelRfl
namespace Go.Proofs.YtdpdpjfnanjmgaaDoor
/- THE CELL 'sum', in the pinned program and in every row, IS THE sha256 OF THE DUMP (.gsa) THAT YtdpdpjfnanjmgaaDoorProg.lean LOADS. Nothing in Lean hashes anything: it is a label: what it is worth is what the hold of that sum in a sandbox is worth. -/
noncomputable def Tryd.pinned : Pinned := { name := "ytdpdpjfnanjmgaadoor", sum := "2e796f7ede104a972f4630be1a03db7fdefb98943bdb77f0f7ea670f8a898ce2", checked := Tryd.checked }
namespace Rows
def none {H : Type} : Left H := { results := [], args := [] }

/- WHAT THE LISTED PACKAGE-LEVEL VARIABLES READ AS WHEN THE CALL BEGINS. Each datum BY PROGRAM (the guide's laid-datum.mjs) off the statement by which the dump's own 'gosem.cut.vars' lays the variable. In a bare row this is a premise. The card (YtdpdpjfnanjmgaaDoorCards.lean) ties it to the program's text. -/
def laid_math_bits_deBruijn32tab {H : Type} : DataW H := .agg [.lit (.int .u8 0), .lit (.int .u8 1), .lit (.int .u8 28), .lit (.int .u8 2), .lit (.int .u8 29), .lit (.int .u8 14), .lit (.int .u8 24), .lit (.int .u8 3), .lit (.int .u8 30), .lit (.int .u8 22), .lit (.int .u8 20), .lit (.int .u8 15), .lit (.int .u8 25), .lit (.int .u8 17), .lit (.int .u8 4), .lit (.int .u8 8), .lit (.int .u8 31), .lit (.int .u8 27), .lit (.int .u8 13), .lit (.int .u8 23), .lit (.int .u8 21), .lit (.int .u8 19), .lit (.int .u8 16), .lit (.int .u8 7), .lit (.int .u8 26), .lit (.int .u8 12), .lit (.int .u8 18), .lit (.int .u8 6), .lit (.int .u8 11), .lit (.int .u8 5), .lit (.int .u8 10), .lit (.int .u8 9)]

/-- 'amalgamlaw19.SplitNames': WHATEVER THE INPUT: true; the input reads as it did. -/
def splitNamesSpec : ChangeSpec := { name := "splitNames", fn := fun _ => fun
  | [] => { results := [.lit (.bool true)], args := [] }
  | _ => none }
def splitNamesRow : OpenClaim := { program := "ytdpdpjfnanjmgaadoor", sum := "2e796f7ede104a972f4630be1a03db7fdefb98943bdb77f0f7ea670f8a898ce2", func := "amalgam/amalgamlaw19.SplitNames", spec := "splitNames", unfollowed := true, recurses := true, named := ["math/bits.deBruijn32tab"], apart := false, laid := [("math/bits.deBruijn32tab", laid_math_bits_deBruijn32tab)] }
def SplitNamesSaid : Prop := splitNamesRow.holds Tryd.pinned (OpenSpec.ofChange splitNamesSpec)

/-- ITS FALSE NEIGHBOUR: 'it returns false'. Refute it at one input. -/
def splitNamesWrong : ChangeSpec := { name := "splitNames", fn := fun _ => fun
  | [] => { results := [.lit (.bool false)], args := [] }
  | _ => none }
def SplitNamesWrongFalsely : Prop := splitNamesRow.holds Tryd.pinned (OpenSpec.ofChange splitNamesWrong)

/-- 'amalgamlaw19.SplitGoes': WHATEVER THE INPUT: true; the input reads as it did. -/
def splitGoesSpec : ChangeSpec := { name := "splitGoes", fn := fun _ => fun
  | [d1, d2] => { results := [.lit (.bool true)], args := [d1, d2] }
  | _ => none }
def splitGoesRow : OpenClaim := { program := "ytdpdpjfnanjmgaadoor", sum := "2e796f7ede104a972f4630be1a03db7fdefb98943bdb77f0f7ea670f8a898ce2", func := "amalgam/amalgamlaw19.SplitGoes", spec := "splitGoes", unfollowed := true, recurses := true, named := ["math/bits.deBruijn32tab"], apart := false, laid := [("math/bits.deBruijn32tab", laid_math_bits_deBruijn32tab)] }
def SplitGoesSaid : Prop := splitGoesRow.holds Tryd.pinned (OpenSpec.ofChange splitGoesSpec)

/-- ITS FALSE NEIGHBOUR: 'it returns false'. Refute it at one input. -/
def splitGoesWrong : ChangeSpec := { name := "splitGoes", fn := fun _ => fun
  | [d1, d2] => { results := [.lit (.bool false)], args := [d1, d2] }
  | _ => none }
def SplitGoesWrongFalsely : Prop := splitGoesRow.holds Tryd.pinned (OpenSpec.ofChange splitGoesWrong)

/-- 'amalgamlaw19.SplitAdds': WHATEVER THE INPUT: true; the input reads as it did. -/
def splitAddsSpec : ChangeSpec := { name := "splitAdds", fn := fun _ => fun
  | [d1, d2] => { results := [.lit (.bool true)], args := [d1, d2] }
  | _ => none }
def splitAddsRow : OpenClaim := { program := "ytdpdpjfnanjmgaadoor", sum := "2e796f7ede104a972f4630be1a03db7fdefb98943bdb77f0f7ea670f8a898ce2", func := "amalgam/amalgamlaw19.SplitAdds", spec := "splitAdds", unfollowed := true, recurses := true, named := ["math/bits.deBruijn32tab"], apart := false, laid := [("math/bits.deBruijn32tab", laid_math_bits_deBruijn32tab)] }
def SplitAddsSaid : Prop := splitAddsRow.holds Tryd.pinned (OpenSpec.ofChange splitAddsSpec)

/-- ITS FALSE NEIGHBOUR: 'it returns false'. Refute it at one input. -/
def splitAddsWrong : ChangeSpec := { name := "splitAdds", fn := fun _ => fun
  | [d1, d2] => { results := [.lit (.bool false)], args := [d1, d2] }
  | _ => none }
def SplitAddsWrongFalsely : Prop := splitAddsRow.holds Tryd.pinned (OpenSpec.ofChange splitAddsWrong)

/-- 'amalgamlaw19.SplitKinds': WHATEVER THE INPUT: true; the input reads as it did. -/
def splitKindsSpec : ChangeSpec := { name := "splitKinds", fn := fun _ => fun
  | [d1, d2] => { results := [.lit (.bool true)], args := [d1, d2] }
  | _ => none }
def splitKindsRow : OpenClaim := { program := "ytdpdpjfnanjmgaadoor", sum := "2e796f7ede104a972f4630be1a03db7fdefb98943bdb77f0f7ea670f8a898ce2", func := "amalgam/amalgamlaw19.SplitKinds", spec := "splitKinds", unfollowed := true, recurses := true, named := ["math/bits.deBruijn32tab"], apart := false, laid := [("math/bits.deBruijn32tab", laid_math_bits_deBruijn32tab)] }
def SplitKindsSaid : Prop := splitKindsRow.holds Tryd.pinned (OpenSpec.ofChange splitKindsSpec)

/-- ITS FALSE NEIGHBOUR: 'it returns false'. Refute it at one input. -/
def splitKindsWrong : ChangeSpec := { name := "splitKinds", fn := fun _ => fun
  | [d1, d2] => { results := [.lit (.bool false)], args := [d1, d2] }
  | _ => none }
def SplitKindsWrongFalsely : Prop := splitKindsRow.holds Tryd.pinned (OpenSpec.ofChange splitKindsWrong)

/-- 'amalgamlaw19.SplitWhoever': WHATEVER THE INPUT: true; the input reads as it did. -/
def splitWhoeverSpec : ChangeSpec := { name := "splitWhoever", fn := fun _ => fun
  | [d1, d2] => { results := [.lit (.bool true)], args := [d1, d2] }
  | _ => none }
def splitWhoeverRow : OpenClaim := { program := "ytdpdpjfnanjmgaadoor", sum := "2e796f7ede104a972f4630be1a03db7fdefb98943bdb77f0f7ea670f8a898ce2", func := "amalgam/amalgamlaw19.SplitWhoever", spec := "splitWhoever", unfollowed := true, recurses := true, named := ["math/bits.deBruijn32tab"], apart := false, laid := [("math/bits.deBruijn32tab", laid_math_bits_deBruijn32tab)] }
def SplitWhoeverSaid : Prop := splitWhoeverRow.holds Tryd.pinned (OpenSpec.ofChange splitWhoeverSpec)

/-- ITS FALSE NEIGHBOUR: 'it returns false'. Refute it at one input. -/
def splitWhoeverWrong : ChangeSpec := { name := "splitWhoever", fn := fun _ => fun
  | [d1, d2] => { results := [.lit (.bool false)], args := [d1, d2] }
  | _ => none }
def SplitWhoeverWrongFalsely : Prop := splitWhoeverRow.holds Tryd.pinned (OpenSpec.ofChange splitWhoeverWrong)

/- THE SECOND FORM. 'bulk': how many values and letters a reading holds, each counted each time it is reached (what is shared counts as often as it is met; a slice's spare places count too). A statement '..UptoSaid' is the law's where the arguments, and the package variables that the reading takes, are together of bulk at most 1048576: NARROWER than '..Said'. Prove '..Said' where nothing that the law and all that it calls make is longer than what came in: it says more and counts as full. Else prove '..UptoSaid'. A law counts once. -/
mutual
def uptoBulk {H : Type} : DataW H → Nat
  | .lit (.string bytes) => bytes.length + 1
  | .lit _ => 1
  | .nil => 1
  | .ptr d => uptoBulk d + 1
  | .slice elems spare => uptoBulkAll elems + uptoBulkAll spare + 1
  | .agg parts => uptoBulkAll parts + 1
  | .iface _ d => uptoBulk d + 1
  | .map entries => uptoBulkEntries entries + 1
  | .held _ => 1
def uptoBulkAll {H : Type} : List (DataW H) → Nat
  | [] => 0
  | d :: r => uptoBulk d + uptoBulkAll r
def uptoBulkEntries {H : Type} : List (Lit × DataW H) → Nat
  | [] => 0
  | x :: r => uptoBulkEntry x + uptoBulkEntries r
def uptoBulkEntry {H : Type} : Lit × DataW H → Nat
  | (.string bytes, d) => bytes.length + uptoBulk d + 1
  | (_, d) => uptoBulk d + 1
 end
def uptoSmall : (H : Type) → List (DataW H) → Bool := fun _ ds => decide (uptoBulkAll ds ≤ 1048576)
def OpenSpec.upto (s : _root_.Go.ChangeSpec) : _root_.Go.OpenSpec := { _root_.Go.OpenSpec.ofChange s with cond := some uptoSmall }

/-- 'amalgamlaw19.SplitNames', WHERE WHAT IT READS IS OF BULK AT MOST 1048576: true; the input reads as it did. -/
def splitNamesUptoRow : OpenClaim := { program := "ytdpdpjfnanjmgaadoor", sum := "2e796f7ede104a972f4630be1a03db7fdefb98943bdb77f0f7ea670f8a898ce2", func := "amalgam/amalgamlaw19.SplitNames", spec := "splitNames", unfollowed := true, recurses := true, named := ["math/bits.deBruijn32tab"], apart := false, laid := [("math/bits.deBruijn32tab", laid_math_bits_deBruijn32tab)], narrowed := true }
def SplitNamesUptoSaid : Prop := splitNamesUptoRow.holds Tryd.pinned (OpenSpec.upto splitNamesSpec)

/-- 'amalgamlaw19.SplitGoes', WHERE WHAT IT READS IS OF BULK AT MOST 1048576: true; the input reads as it did. -/
def splitGoesUptoRow : OpenClaim := { program := "ytdpdpjfnanjmgaadoor", sum := "2e796f7ede104a972f4630be1a03db7fdefb98943bdb77f0f7ea670f8a898ce2", func := "amalgam/amalgamlaw19.SplitGoes", spec := "splitGoes", unfollowed := true, recurses := true, named := ["math/bits.deBruijn32tab"], apart := false, laid := [("math/bits.deBruijn32tab", laid_math_bits_deBruijn32tab)], narrowed := true }
def SplitGoesUptoSaid : Prop := splitGoesUptoRow.holds Tryd.pinned (OpenSpec.upto splitGoesSpec)

/-- 'amalgamlaw19.SplitAdds', WHERE WHAT IT READS IS OF BULK AT MOST 1048576: true; the input reads as it did. -/
def splitAddsUptoRow : OpenClaim := { program := "ytdpdpjfnanjmgaadoor", sum := "2e796f7ede104a972f4630be1a03db7fdefb98943bdb77f0f7ea670f8a898ce2", func := "amalgam/amalgamlaw19.SplitAdds", spec := "splitAdds", unfollowed := true, recurses := true, named := ["math/bits.deBruijn32tab"], apart := false, laid := [("math/bits.deBruijn32tab", laid_math_bits_deBruijn32tab)], narrowed := true }
def SplitAddsUptoSaid : Prop := splitAddsUptoRow.holds Tryd.pinned (OpenSpec.upto splitAddsSpec)

/-- 'amalgamlaw19.SplitKinds', WHERE WHAT IT READS IS OF BULK AT MOST 1048576: true; the input reads as it did. -/
def splitKindsUptoRow : OpenClaim := { program := "ytdpdpjfnanjmgaadoor", sum := "2e796f7ede104a972f4630be1a03db7fdefb98943bdb77f0f7ea670f8a898ce2", func := "amalgam/amalgamlaw19.SplitKinds", spec := "splitKinds", unfollowed := true, recurses := true, named := ["math/bits.deBruijn32tab"], apart := false, laid := [("math/bits.deBruijn32tab", laid_math_bits_deBruijn32tab)], narrowed := true }
def SplitKindsUptoSaid : Prop := splitKindsUptoRow.holds Tryd.pinned (OpenSpec.upto splitKindsSpec)

/-- 'amalgamlaw19.SplitWhoever', WHERE WHAT IT READS IS OF BULK AT MOST 1048576: true; the input reads as it did. -/
def splitWhoeverUptoRow : OpenClaim := { program := "ytdpdpjfnanjmgaadoor", sum := "2e796f7ede104a972f4630be1a03db7fdefb98943bdb77f0f7ea670f8a898ce2", func := "amalgam/amalgamlaw19.SplitWhoever", spec := "splitWhoever", unfollowed := true, recurses := true, named := ["math/bits.deBruijn32tab"], apart := false, laid := [("math/bits.deBruijn32tab", laid_math_bits_deBruijn32tab)], narrowed := true }
def SplitWhoeverUptoSaid : Prop := splitWhoeverUptoRow.holds Tryd.pinned (OpenSpec.upto splitWhoeverSpec)

end Rows
end Go.Proofs.YtdpdpjfnanjmgaaDoor
