/-
  NARROWER THAN 'FOR EVERY INPUT', by the rows' own cells (each row's printed sentence says how): StepRight: loops · StepGeneral: loops.
  DERIVED. THE GIVEN ROWS OF THIS SEAT. 2 by the template 'for every input the law returns true; each argument reads behind the call as it read before'; 0 by the template 'total and deterministic' (their statements: YtfnfbljijkjkjaaGreatTotals.lean).
  GIVEN WITH THE SEED: the statements are not yours to turn. If you find one false, say at which input.
  Laid BY PROGRAM, IN A SANDBOX (cutbox-rows.mjs): the forced cells as the released guide's own fill.sh prints them over the translation 7eb514244e304c64… (all of the seat's roots in one cut). By AI agents, Wed Nov 11 2026. No macro, syntax, notation, axiom, sorry.
-/
import Derived.Test.YtfnfbljijkjkjaaGreatChecked
import GoSem.Claim
import GoSem.ClaimJoined
import GoSem.ClaimMapViews
import Derived.JoinedTies
import Derived.KernelRfl
namespace Go.Proofs.YtfnfbljijkjkjaaGreat
/- THE CELL 'sum', in the pinned program and in every row, IS THE sha256 OF THE DUMP (.gsa) THAT YtfnfbljijkjkjaaGreatProg.lean LOADS. Nothing in Lean hashes anything: it is a label: what it is worth is what the hold of that sum in a sandbox is worth. -/
noncomputable def Tryz.pinned : Pinned := { name := "ytfnfbljijkjkjaagreat", sum := "7eb514244e304c64bf97f10d5f318659c47304ab5035f7c8a4b32576b7139aae", checked := Tryz.checked }
namespace Rows
def none {H : Type} : Left H := { results := [], args := [] }

/-- 'amalgamlaw13.StepRight': WHATEVER THE INPUT: true; the input reads as it did. -/
def stepRightSpec : ChangeSpec := { name := "stepRight", fn := fun _ => fun
  | [d] => { results := [.lit (.bool true)], args := [d] }
  | _ => none }
def stepRightRow : OpenClaim := { program := "ytfnfbljijkjkjaagreat", sum := "7eb514244e304c64bf97f10d5f318659c47304ab5035f7c8a4b32576b7139aae", func := "amalgam/amalgamlaw13.StepRight", spec := "stepRight", inPlace := ["internal/bytealg.abigen_runtime_cmpstring"], unfollowed := true, recurses := true, loops := true, apart := false }
def StepRightSaid : Prop := stepRightRow.holds Tryz.pinned (OpenSpec.ofChange stepRightSpec)

/-- ITS FALSE NEIGHBOUR: 'it returns false'. Refute it at one input. -/
def stepRightWrong : ChangeSpec := { name := "stepRight", fn := fun _ => fun
  | [d] => { results := [.lit (.bool false)], args := [d] }
  | _ => none }
def StepRightWrongFalsely : Prop := stepRightRow.holds Tryz.pinned (OpenSpec.ofChange stepRightWrong)

/-- 'amalgamlaw13.StepGeneral': WHATEVER THE INPUT: true; the input reads as it did. -/
def stepGeneralSpec : ChangeSpec := { name := "stepGeneral", fn := fun _ => fun
  | [d] => { results := [.lit (.bool true)], args := [d] }
  | _ => none }
def stepGeneralRow : OpenClaim := { program := "ytfnfbljijkjkjaagreat", sum := "7eb514244e304c64bf97f10d5f318659c47304ab5035f7c8a4b32576b7139aae", func := "amalgam/amalgamlaw13.StepGeneral", spec := "stepGeneral", inPlace := ["internal/bytealg.abigen_runtime_cmpstring"], unfollowed := true, recurses := true, loops := true, apart := false }
def StepGeneralSaid : Prop := stepGeneralRow.holds Tryz.pinned (OpenSpec.ofChange stepGeneralSpec)

/-- ITS FALSE NEIGHBOUR: 'it returns false'. Refute it at one input. -/
def stepGeneralWrong : ChangeSpec := { name := "stepGeneral", fn := fun _ => fun
  | [d] => { results := [.lit (.bool false)], args := [d] }
  | _ => none }
def StepGeneralWrongFalsely : Prop := stepGeneralRow.holds Tryz.pinned (OpenSpec.ofChange stepGeneralWrong)

/- THE SECOND FORM. 'bulk': how many values and letters a reading holds, each counted each time it is reached (what is shared counts as often as it is met; a slice's spare places count too). A statement '..UptoSaid' is the law's where the arguments, and the package variables that the reading takes, are together of bulk at most 1048576: NARROWER than '..Said'. Prove '..Said' where nothing that the law and all that it calls make is longer than what came in: it says more and counts as full. Else prove '..UptoSaid'. A law counts once. -/
mutual
def uptoBulk {H : Type} : DataW H → Nat
  | .lit (.string bytes) => bytes.length + 1
  | .lit _ => 1
  | .nil => 1
  | .ptr d => uptoBulk d + 1
  | .slice elems spare => uptoBulkAll elems + uptoBulkAll spare + 1
  | .agg parts => uptoBulkAll parts + 1
  | .iface _ d => uptoBulk d + 1
  | .map entries => uptoBulkEntries entries + 1
  | .held _ => 1
def uptoBulkAll {H : Type} : List (DataW H) → Nat
  | [] => 0
  | d :: r => uptoBulk d + uptoBulkAll r
def uptoBulkEntries {H : Type} : List (Lit × DataW H) → Nat
  | [] => 0
  | x :: r => uptoBulkEntry x + uptoBulkEntries r
def uptoBulkEntry {H : Type} : Lit × DataW H → Nat
  | (.string bytes, d) => bytes.length + uptoBulk d + 1
  | (_, d) => uptoBulk d + 1
 end
def uptoSmall : (H : Type) → List (DataW H) → Bool := fun _ ds => decide (uptoBulkAll ds ≤ 1048576)
def OpenSpec.upto (s : _root_.Go.ChangeSpec) : _root_.Go.OpenSpec := { _root_.Go.OpenSpec.ofChange s with cond := some uptoSmall }

/-- 'amalgamlaw13.StepRight', WHERE WHAT IT READS IS OF BULK AT MOST 1048576: true; the input reads as it did. -/
def stepRightUptoRow : OpenClaim := { program := "ytfnfbljijkjkjaagreat", sum := "7eb514244e304c64bf97f10d5f318659c47304ab5035f7c8a4b32576b7139aae", func := "amalgam/amalgamlaw13.StepRight", spec := "stepRight", inPlace := ["internal/bytealg.abigen_runtime_cmpstring"], unfollowed := true, recurses := true, loops := true, apart := false, narrowed := true }
def StepRightUptoSaid : Prop := stepRightUptoRow.holds Tryz.pinned (OpenSpec.upto stepRightSpec)

/-- 'amalgamlaw13.StepGeneral', WHERE WHAT IT READS IS OF BULK AT MOST 1048576: true; the input reads as it did. -/
def stepGeneralUptoRow : OpenClaim := { program := "ytfnfbljijkjkjaagreat", sum := "7eb514244e304c64bf97f10d5f318659c47304ab5035f7c8a4b32576b7139aae", func := "amalgam/amalgamlaw13.StepGeneral", spec := "stepGeneral", inPlace := ["internal/bytealg.abigen_runtime_cmpstring"], unfollowed := true, recurses := true, loops := true, apart := false, narrowed := true }
def StepGeneralUptoSaid : Prop := stepGeneralUptoRow.holds Tryz.pinned (OpenSpec.upto stepGeneralSpec)

end Rows
end Go.Proofs.YtfnfbljijkjkjaaGreat
