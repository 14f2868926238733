/-
  NARROWER THAN 'FOR EVERY INPUT', by the rows' own cells (each row's printed sentence says how): StepOnes: loops · StepFrees: loops · StepTurned: loops.
  DERIVED. THE GIVEN ROWS OF THIS SEAT. 3 by the template 'for every input the law returns true; each argument reads behind the call as it read before'; 0 by the template 'total and deterministic' (their statements: YtfnfbljijkjkjaaTotals.lean).
  GIVEN WITH THE SEED: the statements are not yours to turn. If you find one false, say at which input.
  Laid BY PROGRAM, IN A SANDBOX (cutbox-rows.mjs): the forced cells as the released guide's own fill.sh prints them over the translation ddeee05bc132428a… (all of the seat's roots in one cut). By AI agents, Wed Nov 11 2026. No macro, syntax, notation, axiom, sorry.
-/
import Derived.Test.YtfnfbljijkjkjaaChecked
import GoSem.Claim
import GoSem.ClaimJoined
import GoSem.ClaimMapViews
import Derived.JoinedTies
import Derived.KernelRfl
namespace Go.Proofs.Ytfnfbljijkjkjaa
/- THE CELL 'sum', in the pinned program and in every row, IS THE sha256 OF THE DUMP (.gsa) THAT YtfnfbljijkjkjaaProg.lean LOADS. Nothing in Lean hashes anything: it is a label: what it is worth is what the hold of that sum in a sandbox is worth. -/
noncomputable def Try.pinned : Pinned := { name := "ytfnfbljijkjkjaa", sum := "ddeee05bc132428a2f7ca1b10faee8df1e87e5d22d4aca830fd5546dbcfd55c5", checked := Try.checked }
namespace Rows
def none {H : Type} : Left H := { results := [], args := [] }

/-- 'amalgamlaw13.StepOnes': WHATEVER THE INPUT: true; the input reads as it did. -/
def stepOnesSpec : ChangeSpec := { name := "stepOnes", fn := fun _ => fun
  | [d1, d2] => { results := [.lit (.bool true)], args := [d1, d2] }
  | _ => none }
def stepOnesRow : OpenClaim := { program := "ytfnfbljijkjkjaa", sum := "ddeee05bc132428a2f7ca1b10faee8df1e87e5d22d4aca830fd5546dbcfd55c5", func := "amalgam/amalgamlaw13.StepOnes", spec := "stepOnes", inPlace := ["internal/bytealg.abigen_runtime_cmpstring"], unfollowed := true, recurses := true, loops := true, apart := false }
def StepOnesSaid : Prop := stepOnesRow.holds Try.pinned (OpenSpec.ofChange stepOnesSpec)

/-- ITS FALSE NEIGHBOUR: 'it returns false'. Refute it at one input. -/
def stepOnesWrong : ChangeSpec := { name := "stepOnes", fn := fun _ => fun
  | [d1, d2] => { results := [.lit (.bool false)], args := [d1, d2] }
  | _ => none }
def StepOnesWrongFalsely : Prop := stepOnesRow.holds Try.pinned (OpenSpec.ofChange stepOnesWrong)

/-- 'amalgamlaw13.StepFrees': WHATEVER THE INPUT: true; the input reads as it did. -/
def stepFreesSpec : ChangeSpec := { name := "stepFrees", fn := fun _ => fun
  | [d1, d2] => { results := [.lit (.bool true)], args := [d1, d2] }
  | _ => none }
def stepFreesRow : OpenClaim := { program := "ytfnfbljijkjkjaa", sum := "ddeee05bc132428a2f7ca1b10faee8df1e87e5d22d4aca830fd5546dbcfd55c5", func := "amalgam/amalgamlaw13.StepFrees", spec := "stepFrees", inPlace := ["internal/bytealg.abigen_runtime_cmpstring"], unfollowed := true, recurses := true, loops := true, apart := false }
def StepFreesSaid : Prop := stepFreesRow.holds Try.pinned (OpenSpec.ofChange stepFreesSpec)

/-- ITS FALSE NEIGHBOUR: 'it returns false'. Refute it at one input. -/
def stepFreesWrong : ChangeSpec := { name := "stepFrees", fn := fun _ => fun
  | [d1, d2] => { results := [.lit (.bool false)], args := [d1, d2] }
  | _ => none }
def StepFreesWrongFalsely : Prop := stepFreesRow.holds Try.pinned (OpenSpec.ofChange stepFreesWrong)

/-- 'amalgamlaw13.StepTurned': WHATEVER THE INPUT: true; the input reads as it did. -/
def stepTurnedSpec : ChangeSpec := { name := "stepTurned", fn := fun _ => fun
  | [d1, d2] => { results := [.lit (.bool true)], args := [d1, d2] }
  | _ => none }
def stepTurnedRow : OpenClaim := { program := "ytfnfbljijkjkjaa", sum := "ddeee05bc132428a2f7ca1b10faee8df1e87e5d22d4aca830fd5546dbcfd55c5", func := "amalgam/amalgamlaw13.StepTurned", spec := "stepTurned", inPlace := ["internal/bytealg.abigen_runtime_cmpstring"], unfollowed := true, recurses := true, loops := true, apart := false }
def StepTurnedSaid : Prop := stepTurnedRow.holds Try.pinned (OpenSpec.ofChange stepTurnedSpec)

/-- ITS FALSE NEIGHBOUR: 'it returns false'. Refute it at one input. -/
def stepTurnedWrong : ChangeSpec := { name := "stepTurned", fn := fun _ => fun
  | [d1, d2] => { results := [.lit (.bool false)], args := [d1, d2] }
  | _ => none }
def StepTurnedWrongFalsely : Prop := stepTurnedRow.holds Try.pinned (OpenSpec.ofChange stepTurnedWrong)

/- THE SECOND FORM. 'bulk': how many values and letters a reading holds, each counted each time it is reached (what is shared counts as often as it is met; a slice's spare places count too). A statement '..UptoSaid' is the law's where the arguments, and the package variables that the reading takes, are together of bulk at most 1048576: NARROWER than '..Said'. Prove '..Said' where nothing that the law and all that it calls make is longer than what came in: it says more and counts as full. Else prove '..UptoSaid'. A law counts once. -/
mutual
def uptoBulk {H : Type} : DataW H → Nat
  | .lit (.string bytes) => bytes.length + 1
  | .lit _ => 1
  | .nil => 1
  | .ptr d => uptoBulk d + 1
  | .slice elems spare => uptoBulkAll elems + uptoBulkAll spare + 1
  | .agg parts => uptoBulkAll parts + 1
  | .iface _ d => uptoBulk d + 1
  | .map entries => uptoBulkEntries entries + 1
  | .held _ => 1
def uptoBulkAll {H : Type} : List (DataW H) → Nat
  | [] => 0
  | d :: r => uptoBulk d + uptoBulkAll r
def uptoBulkEntries {H : Type} : List (Lit × DataW H) → Nat
  | [] => 0
  | x :: r => uptoBulkEntry x + uptoBulkEntries r
def uptoBulkEntry {H : Type} : Lit × DataW H → Nat
  | (.string bytes, d) => bytes.length + uptoBulk d + 1
  | (_, d) => uptoBulk d + 1
 end
def uptoSmall : (H : Type) → List (DataW H) → Bool := fun _ ds => decide (uptoBulkAll ds ≤ 1048576)
def OpenSpec.upto (s : _root_.Go.ChangeSpec) : _root_.Go.OpenSpec := { _root_.Go.OpenSpec.ofChange s with cond := some uptoSmall }

/-- 'amalgamlaw13.StepOnes', WHERE WHAT IT READS IS OF BULK AT MOST 1048576: true; the input reads as it did. -/
def stepOnesUptoRow : OpenClaim := { program := "ytfnfbljijkjkjaa", sum := "ddeee05bc132428a2f7ca1b10faee8df1e87e5d22d4aca830fd5546dbcfd55c5", func := "amalgam/amalgamlaw13.StepOnes", spec := "stepOnes", inPlace := ["internal/bytealg.abigen_runtime_cmpstring"], unfollowed := true, recurses := true, loops := true, apart := false, narrowed := true }
def StepOnesUptoSaid : Prop := stepOnesUptoRow.holds Try.pinned (OpenSpec.upto stepOnesSpec)

/-- 'amalgamlaw13.StepFrees', WHERE WHAT IT READS IS OF BULK AT MOST 1048576: true; the input reads as it did. -/
def stepFreesUptoRow : OpenClaim := { program := "ytfnfbljijkjkjaa", sum := "ddeee05bc132428a2f7ca1b10faee8df1e87e5d22d4aca830fd5546dbcfd55c5", func := "amalgam/amalgamlaw13.StepFrees", spec := "stepFrees", inPlace := ["internal/bytealg.abigen_runtime_cmpstring"], unfollowed := true, recurses := true, loops := true, apart := false, narrowed := true }
def StepFreesUptoSaid : Prop := stepFreesUptoRow.holds Try.pinned (OpenSpec.upto stepFreesSpec)

/-- 'amalgamlaw13.StepTurned', WHERE WHAT IT READS IS OF BULK AT MOST 1048576: true; the input reads as it did. -/
def stepTurnedUptoRow : OpenClaim := { program := "ytfnfbljijkjkjaa", sum := "ddeee05bc132428a2f7ca1b10faee8df1e87e5d22d4aca830fd5546dbcfd55c5", func := "amalgam/amalgamlaw13.StepTurned", spec := "stepTurned", inPlace := ["internal/bytealg.abigen_runtime_cmpstring"], unfollowed := true, recurses := true, loops := true, apart := false, narrowed := true }
def StepTurnedUptoSaid : Prop := stepTurnedUptoRow.holds Try.pinned (OpenSpec.upto stepTurnedSpec)

end Rows
end Go.Proofs.Ytfnfbljijkjkjaa
