/-
  NARROWER THAN 'FOR EVERY INPUT', by the rows' own cells (each row's printed sentence says how): TermsChecks: loops · TermsTells: loops · TermsCompares: loops · TermsPlaces: loops · TermsGoes: loops · TermsOrder: loops.
  DERIVED. THE GIVEN ROWS OF THIS SEAT. 6 by the template 'for every input the law returns true; each argument reads behind the call as it read before'; 0 by the template 'total and deterministic' (their statements: YtmhdapgiealmfaaTotals.lean).
  GIVEN WITH THE SEED: the statements are not yours to turn. If you find one false, say at which input.
  Laid BY PROGRAM, IN A SANDBOX (cutbox-rows.mjs): the forced cells as the released guide's own fill.sh prints them over the translation 9880312d6ab8c822… (all of the seat's roots in one cut). By AI agents, Wed Nov 11 2026. No macro, syntax, notation, axiom, sorry.
-/
import Derived.Test.YtmhdapgiealmfaaChecked
import GoSem.Claim
import GoSem.ClaimJoined
import GoSem.ClaimMapViews
import Derived.JoinedTies
import Derived.KernelRfl
namespace Go.Proofs.Ytmhdapgiealmfaa
/- THE CELL 'sum', in the pinned program and in every row, IS THE sha256 OF THE DUMP (.gsa) THAT YtmhdapgiealmfaaProg.lean LOADS. Nothing in Lean hashes anything: it is a label: what it is worth is what the hold of that sum in a sandbox is worth. -/
noncomputable def Try.pinned : Pinned := { name := "ytmhdapgiealmfaa", sum := "9880312d6ab8c822bb000c07bb0f9a2429817f8b9b4efb6d57a7b7994a0bff01", checked := Try.checked }
namespace Rows
def none {H : Type} : Left H := { results := [], args := [] }

/-- 'amalgamlaw03.TermsChecks': WHATEVER THE INPUT: true; the input reads as it did. -/
def termsChecksSpec : ChangeSpec := { name := "termsChecks", fn := fun _ => fun
  | [d1, d2] => { results := [.lit (.bool true)], args := [d1, d2] }
  | _ => none }
def termsChecksRow : OpenClaim := { program := "ytmhdapgiealmfaa", sum := "9880312d6ab8c822bb000c07bb0f9a2429817f8b9b4efb6d57a7b7994a0bff01", func := "amalgam/amalgamlaw03.TermsChecks", spec := "termsChecks", inPlace := ["internal/bytealg.abigen_runtime_cmpstring"], unfollowed := true, recurses := true, loops := true, apart := false }
def TermsChecksSaid : Prop := termsChecksRow.holds Try.pinned (OpenSpec.ofChange termsChecksSpec)

/-- ITS FALSE NEIGHBOUR: 'it returns false'. Refute it at one input. -/
def termsChecksWrong : ChangeSpec := { name := "termsChecks", fn := fun _ => fun
  | [d1, d2] => { results := [.lit (.bool false)], args := [d1, d2] }
  | _ => none }
def TermsChecksWrongFalsely : Prop := termsChecksRow.holds Try.pinned (OpenSpec.ofChange termsChecksWrong)

/-- 'amalgamlaw03.TermsTells': WHATEVER THE INPUT: true; the input reads as it did. -/
def termsTellsSpec : ChangeSpec := { name := "termsTells", fn := fun _ => fun
  | [d1, d2] => { results := [.lit (.bool true)], args := [d1, d2] }
  | _ => none }
def termsTellsRow : OpenClaim := { program := "ytmhdapgiealmfaa", sum := "9880312d6ab8c822bb000c07bb0f9a2429817f8b9b4efb6d57a7b7994a0bff01", func := "amalgam/amalgamlaw03.TermsTells", spec := "termsTells", inPlace := ["internal/bytealg.abigen_runtime_cmpstring"], unfollowed := true, recurses := true, loops := true, apart := false }
def TermsTellsSaid : Prop := termsTellsRow.holds Try.pinned (OpenSpec.ofChange termsTellsSpec)

/-- ITS FALSE NEIGHBOUR: 'it returns false'. Refute it at one input. -/
def termsTellsWrong : ChangeSpec := { name := "termsTells", fn := fun _ => fun
  | [d1, d2] => { results := [.lit (.bool false)], args := [d1, d2] }
  | _ => none }
def TermsTellsWrongFalsely : Prop := termsTellsRow.holds Try.pinned (OpenSpec.ofChange termsTellsWrong)

/-- 'amalgamlaw03.TermsCompares': WHATEVER THE INPUT: true; the input reads as it did. -/
def termsComparesSpec : ChangeSpec := { name := "termsCompares", fn := fun _ => fun
  | [d1, d2] => { results := [.lit (.bool true)], args := [d1, d2] }
  | _ => none }
def termsComparesRow : OpenClaim := { program := "ytmhdapgiealmfaa", sum := "9880312d6ab8c822bb000c07bb0f9a2429817f8b9b4efb6d57a7b7994a0bff01", func := "amalgam/amalgamlaw03.TermsCompares", spec := "termsCompares", inPlace := ["internal/bytealg.abigen_runtime_cmpstring"], unfollowed := true, recurses := true, loops := true, apart := false }
def TermsComparesSaid : Prop := termsComparesRow.holds Try.pinned (OpenSpec.ofChange termsComparesSpec)

/-- ITS FALSE NEIGHBOUR: 'it returns false'. Refute it at one input. -/
def termsComparesWrong : ChangeSpec := { name := "termsCompares", fn := fun _ => fun
  | [d1, d2] => { results := [.lit (.bool false)], args := [d1, d2] }
  | _ => none }
def TermsComparesWrongFalsely : Prop := termsComparesRow.holds Try.pinned (OpenSpec.ofChange termsComparesWrong)

/-- 'amalgamlaw03.TermsPlaces': WHATEVER THE INPUT: true; the input reads as it did. -/
def termsPlacesSpec : ChangeSpec := { name := "termsPlaces", fn := fun _ => fun
  | [d1, d2, d3] => { results := [.lit (.bool true)], args := [d1, d2, d3] }
  | _ => none }
def termsPlacesRow : OpenClaim := { program := "ytmhdapgiealmfaa", sum := "9880312d6ab8c822bb000c07bb0f9a2429817f8b9b4efb6d57a7b7994a0bff01", func := "amalgam/amalgamlaw03.TermsPlaces", spec := "termsPlaces", inPlace := ["internal/bytealg.abigen_runtime_cmpstring"], unfollowed := true, recurses := true, loops := true, apart := false }
def TermsPlacesSaid : Prop := termsPlacesRow.holds Try.pinned (OpenSpec.ofChange termsPlacesSpec)

/-- ITS FALSE NEIGHBOUR: 'it returns false'. Refute it at one input. -/
def termsPlacesWrong : ChangeSpec := { name := "termsPlaces", fn := fun _ => fun
  | [d1, d2, d3] => { results := [.lit (.bool false)], args := [d1, d2, d3] }
  | _ => none }
def TermsPlacesWrongFalsely : Prop := termsPlacesRow.holds Try.pinned (OpenSpec.ofChange termsPlacesWrong)

/-- 'amalgamlaw03.TermsGoes': WHATEVER THE INPUT: true; the input reads as it did. -/
def termsGoesSpec : ChangeSpec := { name := "termsGoes", fn := fun _ => fun
  | [d1, d2] => { results := [.lit (.bool true)], args := [d1, d2] }
  | _ => none }
def termsGoesRow : OpenClaim := { program := "ytmhdapgiealmfaa", sum := "9880312d6ab8c822bb000c07bb0f9a2429817f8b9b4efb6d57a7b7994a0bff01", func := "amalgam/amalgamlaw03.TermsGoes", spec := "termsGoes", inPlace := ["internal/bytealg.abigen_runtime_cmpstring"], unfollowed := true, recurses := true, loops := true, apart := false }
def TermsGoesSaid : Prop := termsGoesRow.holds Try.pinned (OpenSpec.ofChange termsGoesSpec)

/-- ITS FALSE NEIGHBOUR: 'it returns false'. Refute it at one input. -/
def termsGoesWrong : ChangeSpec := { name := "termsGoes", fn := fun _ => fun
  | [d1, d2] => { results := [.lit (.bool false)], args := [d1, d2] }
  | _ => none }
def TermsGoesWrongFalsely : Prop := termsGoesRow.holds Try.pinned (OpenSpec.ofChange termsGoesWrong)

/-- 'amalgamlaw03.TermsOrder': WHATEVER THE INPUT: true; the input reads as it did. -/
def termsOrderSpec : ChangeSpec := { name := "termsOrder", fn := fun _ => fun
  | [d1, d2, d3] => { results := [.lit (.bool true)], args := [d1, d2, d3] }
  | _ => none }
def termsOrderRow : OpenClaim := { program := "ytmhdapgiealmfaa", sum := "9880312d6ab8c822bb000c07bb0f9a2429817f8b9b4efb6d57a7b7994a0bff01", func := "amalgam/amalgamlaw03.TermsOrder", spec := "termsOrder", inPlace := ["internal/bytealg.abigen_runtime_cmpstring"], unfollowed := true, recurses := true, loops := true, apart := false }
def TermsOrderSaid : Prop := termsOrderRow.holds Try.pinned (OpenSpec.ofChange termsOrderSpec)

/-- ITS FALSE NEIGHBOUR: 'it returns false'. Refute it at one input. -/
def termsOrderWrong : ChangeSpec := { name := "termsOrder", fn := fun _ => fun
  | [d1, d2, d3] => { results := [.lit (.bool false)], args := [d1, d2, d3] }
  | _ => none }
def TermsOrderWrongFalsely : Prop := termsOrderRow.holds Try.pinned (OpenSpec.ofChange termsOrderWrong)

/- THE SECOND FORM. 'bulk': how many values and letters a reading holds, each counted each time it is reached (what is shared counts as often as it is met; a slice's spare places count too). A statement '..UptoSaid' is the law's where the arguments, and the package variables that the reading takes, are together of bulk at most 1048576: NARROWER than '..Said'. Prove '..Said' where nothing that the law and all that it calls make is longer than what came in: it says more and counts as full. Else prove '..UptoSaid'. A law counts once. -/
mutual
def uptoBulk {H : Type} : DataW H → Nat
  | .lit (.string bytes) => bytes.length + 1
  | .lit _ => 1
  | .nil => 1
  | .ptr d => uptoBulk d + 1
  | .slice elems spare => uptoBulkAll elems + uptoBulkAll spare + 1
  | .agg parts => uptoBulkAll parts + 1
  | .iface _ d => uptoBulk d + 1
  | .map entries => uptoBulkEntries entries + 1
  | .held _ => 1
def uptoBulkAll {H : Type} : List (DataW H) → Nat
  | [] => 0
  | d :: r => uptoBulk d + uptoBulkAll r
def uptoBulkEntries {H : Type} : List (Lit × DataW H) → Nat
  | [] => 0
  | x :: r => uptoBulkEntry x + uptoBulkEntries r
def uptoBulkEntry {H : Type} : Lit × DataW H → Nat
  | (.string bytes, d) => bytes.length + uptoBulk d + 1
  | (_, d) => uptoBulk d + 1
 end
def uptoSmall : (H : Type) → List (DataW H) → Bool := fun _ ds => decide (uptoBulkAll ds ≤ 1048576)
def OpenSpec.upto (s : _root_.Go.ChangeSpec) : _root_.Go.OpenSpec := { _root_.Go.OpenSpec.ofChange s with cond := some uptoSmall }

/-- 'amalgamlaw03.TermsChecks', WHERE WHAT IT READS IS OF BULK AT MOST 1048576: true; the input reads as it did. -/
def termsChecksUptoRow : OpenClaim := { program := "ytmhdapgiealmfaa", sum := "9880312d6ab8c822bb000c07bb0f9a2429817f8b9b4efb6d57a7b7994a0bff01", func := "amalgam/amalgamlaw03.TermsChecks", spec := "termsChecks", inPlace := ["internal/bytealg.abigen_runtime_cmpstring"], unfollowed := true, recurses := true, loops := true, apart := false, narrowed := true }
def TermsChecksUptoSaid : Prop := termsChecksUptoRow.holds Try.pinned (OpenSpec.upto termsChecksSpec)

/-- 'amalgamlaw03.TermsTells', WHERE WHAT IT READS IS OF BULK AT MOST 1048576: true; the input reads as it did. -/
def termsTellsUptoRow : OpenClaim := { program := "ytmhdapgiealmfaa", sum := "9880312d6ab8c822bb000c07bb0f9a2429817f8b9b4efb6d57a7b7994a0bff01", func := "amalgam/amalgamlaw03.TermsTells", spec := "termsTells", inPlace := ["internal/bytealg.abigen_runtime_cmpstring"], unfollowed := true, recurses := true, loops := true, apart := false, narrowed := true }
def TermsTellsUptoSaid : Prop := termsTellsUptoRow.holds Try.pinned (OpenSpec.upto termsTellsSpec)

/-- 'amalgamlaw03.TermsCompares', WHERE WHAT IT READS IS OF BULK AT MOST 1048576: true; the input reads as it did. -/
def termsComparesUptoRow : OpenClaim := { program := "ytmhdapgiealmfaa", sum := "9880312d6ab8c822bb000c07bb0f9a2429817f8b9b4efb6d57a7b7994a0bff01", func := "amalgam/amalgamlaw03.TermsCompares", spec := "termsCompares", inPlace := ["internal/bytealg.abigen_runtime_cmpstring"], unfollowed := true, recurses := true, loops := true, apart := false, narrowed := true }
def TermsComparesUptoSaid : Prop := termsComparesUptoRow.holds Try.pinned (OpenSpec.upto termsComparesSpec)

/-- 'amalgamlaw03.TermsPlaces', WHERE WHAT IT READS IS OF BULK AT MOST 1048576: true; the input reads as it did. -/
def termsPlacesUptoRow : OpenClaim := { program := "ytmhdapgiealmfaa", sum := "9880312d6ab8c822bb000c07bb0f9a2429817f8b9b4efb6d57a7b7994a0bff01", func := "amalgam/amalgamlaw03.TermsPlaces", spec := "termsPlaces", inPlace := ["internal/bytealg.abigen_runtime_cmpstring"], unfollowed := true, recurses := true, loops := true, apart := false, narrowed := true }
def TermsPlacesUptoSaid : Prop := termsPlacesUptoRow.holds Try.pinned (OpenSpec.upto termsPlacesSpec)

/-- 'amalgamlaw03.TermsGoes', WHERE WHAT IT READS IS OF BULK AT MOST 1048576: true; the input reads as it did. -/
def termsGoesUptoRow : OpenClaim := { program := "ytmhdapgiealmfaa", sum := "9880312d6ab8c822bb000c07bb0f9a2429817f8b9b4efb6d57a7b7994a0bff01", func := "amalgam/amalgamlaw03.TermsGoes", spec := "termsGoes", inPlace := ["internal/bytealg.abigen_runtime_cmpstring"], unfollowed := true, recurses := true, loops := true, apart := false, narrowed := true }
def TermsGoesUptoSaid : Prop := termsGoesUptoRow.holds Try.pinned (OpenSpec.upto termsGoesSpec)

/-- 'amalgamlaw03.TermsOrder', WHERE WHAT IT READS IS OF BULK AT MOST 1048576: true; the input reads as it did. -/
def termsOrderUptoRow : OpenClaim := { program := "ytmhdapgiealmfaa", sum := "9880312d6ab8c822bb000c07bb0f9a2429817f8b9b4efb6d57a7b7994a0bff01", func := "amalgam/amalgamlaw03.TermsOrder", spec := "termsOrder", inPlace := ["internal/bytealg.abigen_runtime_cmpstring"], unfollowed := true, recurses := true, loops := true, apart := false, narrowed := true }
def TermsOrderUptoSaid : Prop := termsOrderUptoRow.holds Try.pinned (OpenSpec.upto termsOrderSpec)

end Rows
end Go.Proofs.Ytmhdapgiealmfaa
