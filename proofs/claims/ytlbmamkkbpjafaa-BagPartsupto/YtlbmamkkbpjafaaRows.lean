/-
  No cell of these rows narrows 'for every input' (looked for: loops, veiled, ifaces, maps, wideKeys, modest, calm, conditions, laid).
  DERIVED. THE GIVEN ROWS OF THIS SEAT. 6 by the template 'for every input the law returns true; each argument reads behind the call as it read before'; 0 by the template 'total and deterministic' (their statements: YtlbmamkkbpjafaaTotals.lean).
  GIVEN WITH THE SEED: the statements are not yours to turn. If you find one false, say at which input.
  Laid BY PROGRAM, IN A SANDBOX (cutbox-rows.mjs): the forced cells as the released guide's own fill.sh prints them over the translation 61dbaf57ed804313… (all of the seat's roots in one cut). By AI agents, Wed Nov 11 2026. No macro, syntax, notation, axiom, sorry.
-/
import Derived.Test.YtlbmamkkbpjafaaChecked
import GoSem.Claim
import GoSem.ClaimJoined
import GoSem.ClaimMapViews
import Derived.JoinedTies
import Derived.KernelRfl
namespace Go.Proofs.Ytlbmamkkbpjafaa
/- THE CELL 'sum', in the pinned program and in every row, IS THE sha256 OF THE DUMP (.gsa) THAT YtlbmamkkbpjafaaProg.lean LOADS. Nothing in Lean hashes anything: it is a label: what it is worth is what the hold of that sum in a sandbox is worth. -/
noncomputable def Try.pinned : Pinned := { name := "ytlbmamkkbpjafaa", sum := "61dbaf57ed80431352b02db5caa8049c38e3495c298cf1040c4f8542f5d772ec", checked := Try.checked }
namespace Rows
def none {H : Type} : Left H := { results := [], args := [] }

/-- 'amalgamlaw06.BagPlays': WHATEVER THE INPUT: true; the input reads as it did. -/
def bagPlaysSpec : ChangeSpec := { name := "bagPlays", fn := fun _ => fun
  | [d1, d2] => { results := [.lit (.bool true)], args := [d1, d2] }
  | _ => none }
def bagPlaysRow : OpenClaim := { program := "ytlbmamkkbpjafaa", sum := "61dbaf57ed80431352b02db5caa8049c38e3495c298cf1040c4f8542f5d772ec", func := "amalgam/amalgamlaw06.BagPlays", spec := "bagPlays", inPlace := ["slices.overlaps[amalgam/bag.Item[amalgam/amalgamref06.Thing]]"], unfollowed := true, recurses := true, apart := false }
def BagPlaysSaid : Prop := bagPlaysRow.holds Try.pinned (OpenSpec.ofChange bagPlaysSpec)

/-- ITS FALSE NEIGHBOUR: 'it returns false'. Refute it at one input. -/
def bagPlaysWrong : ChangeSpec := { name := "bagPlays", fn := fun _ => fun
  | [d1, d2] => { results := [.lit (.bool false)], args := [d1, d2] }
  | _ => none }
def BagPlaysWrongFalsely : Prop := bagPlaysRow.holds Try.pinned (OpenSpec.ofChange bagPlaysWrong)

/-- 'amalgamlaw06.BagPairs': WHATEVER THE INPUT: true; the input reads as it did. -/
def bagPairsSpec : ChangeSpec := { name := "bagPairs", fn := fun _ => fun
  | [d1, d2] => { results := [.lit (.bool true)], args := [d1, d2] }
  | _ => none }
def bagPairsRow : OpenClaim := { program := "ytlbmamkkbpjafaa", sum := "61dbaf57ed80431352b02db5caa8049c38e3495c298cf1040c4f8542f5d772ec", func := "amalgam/amalgamlaw06.BagPairs", spec := "bagPairs", inPlace := ["slices.overlaps[amalgam/bag.Item[amalgam/amalgamref06.Thing]]"], unfollowed := true, recurses := true, apart := false }
def BagPairsSaid : Prop := bagPairsRow.holds Try.pinned (OpenSpec.ofChange bagPairsSpec)

/-- ITS FALSE NEIGHBOUR: 'it returns false'. Refute it at one input. -/
def bagPairsWrong : ChangeSpec := { name := "bagPairs", fn := fun _ => fun
  | [d1, d2] => { results := [.lit (.bool false)], args := [d1, d2] }
  | _ => none }
def BagPairsWrongFalsely : Prop := bagPairsRow.holds Try.pinned (OpenSpec.ofChange bagPairsWrong)

/-- 'amalgamlaw06.BagOf': WHATEVER THE INPUT: true; the input reads as it did. -/
def bagOfSpec : ChangeSpec := { name := "bagOf", fn := fun _ => fun
  | [d] => { results := [.lit (.bool true)], args := [d] }
  | _ => none }
def bagOfRow : OpenClaim := { program := "ytlbmamkkbpjafaa", sum := "61dbaf57ed80431352b02db5caa8049c38e3495c298cf1040c4f8542f5d772ec", func := "amalgam/amalgamlaw06.BagOf", spec := "bagOf", inPlace := ["slices.overlaps[amalgam/bag.Item[amalgam/amalgamref06.Thing]]"], unfollowed := true, recurses := true, apart := false }
def BagOfSaid : Prop := bagOfRow.holds Try.pinned (OpenSpec.ofChange bagOfSpec)

/-- ITS FALSE NEIGHBOUR: 'it returns false'. Refute it at one input. -/
def bagOfWrong : ChangeSpec := { name := "bagOf", fn := fun _ => fun
  | [d] => { results := [.lit (.bool false)], args := [d] }
  | _ => none }
def BagOfWrongFalsely : Prop := bagOfRow.holds Try.pinned (OpenSpec.ofChange bagOfWrong)

/-- 'amalgamlaw06.BagNone': WHATEVER THE INPUT: true; the input reads as it did. -/
def bagNoneSpec : ChangeSpec := { name := "bagNone", fn := fun _ => fun
  | [d] => { results := [.lit (.bool true)], args := [d] }
  | _ => none }
def bagNoneRow : OpenClaim := { program := "ytlbmamkkbpjafaa", sum := "61dbaf57ed80431352b02db5caa8049c38e3495c298cf1040c4f8542f5d772ec", func := "amalgam/amalgamlaw06.BagNone", spec := "bagNone", inPlace := ["slices.overlaps[amalgam/bag.Item[amalgam/amalgamref06.Thing]]"], unfollowed := true, recurses := true, apart := false }
def BagNoneSaid : Prop := bagNoneRow.holds Try.pinned (OpenSpec.ofChange bagNoneSpec)

/-- ITS FALSE NEIGHBOUR: 'it returns false'. Refute it at one input. -/
def bagNoneWrong : ChangeSpec := { name := "bagNone", fn := fun _ => fun
  | [d] => { results := [.lit (.bool false)], args := [d] }
  | _ => none }
def BagNoneWrongFalsely : Prop := bagNoneRow.holds Try.pinned (OpenSpec.ofChange bagNoneWrong)

/-- 'amalgamlaw06.BagParts': WHATEVER THE INPUT: true; the input reads as it did. -/
def bagPartsSpec : ChangeSpec := { name := "bagParts", fn := fun _ => fun
  | [d1, d2] => { results := [.lit (.bool true)], args := [d1, d2] }
  | _ => none }
def bagPartsRow : OpenClaim := { program := "ytlbmamkkbpjafaa", sum := "61dbaf57ed80431352b02db5caa8049c38e3495c298cf1040c4f8542f5d772ec", func := "amalgam/amalgamlaw06.BagParts", spec := "bagParts", inPlace := ["slices.overlaps[amalgam/bag.Item[amalgam/amalgamref06.Thing]]"], unfollowed := true, recurses := true, apart := false }
def BagPartsSaid : Prop := bagPartsRow.holds Try.pinned (OpenSpec.ofChange bagPartsSpec)

/-- ITS FALSE NEIGHBOUR: 'it returns false'. Refute it at one input. -/
def bagPartsWrong : ChangeSpec := { name := "bagParts", fn := fun _ => fun
  | [d1, d2] => { results := [.lit (.bool false)], args := [d1, d2] }
  | _ => none }
def BagPartsWrongFalsely : Prop := bagPartsRow.holds Try.pinned (OpenSpec.ofChange bagPartsWrong)

/-- 'amalgamlaw06.BagBack': WHATEVER THE INPUT: true; the input reads as it did. -/
def bagBackSpec : ChangeSpec := { name := "bagBack", fn := fun _ => fun
  | [d1, d2] => { results := [.lit (.bool true)], args := [d1, d2] }
  | _ => none }
def bagBackRow : OpenClaim := { program := "ytlbmamkkbpjafaa", sum := "61dbaf57ed80431352b02db5caa8049c38e3495c298cf1040c4f8542f5d772ec", func := "amalgam/amalgamlaw06.BagBack", spec := "bagBack", inPlace := ["slices.overlaps[amalgam/bag.Item[amalgam/amalgamref06.Thing]]"], unfollowed := true, recurses := true, apart := false }
def BagBackSaid : Prop := bagBackRow.holds Try.pinned (OpenSpec.ofChange bagBackSpec)

/-- ITS FALSE NEIGHBOUR: 'it returns false'. Refute it at one input. -/
def bagBackWrong : ChangeSpec := { name := "bagBack", fn := fun _ => fun
  | [d1, d2] => { results := [.lit (.bool false)], args := [d1, d2] }
  | _ => none }
def BagBackWrongFalsely : Prop := bagBackRow.holds Try.pinned (OpenSpec.ofChange bagBackWrong)

/- THE SECOND FORM. 'bulk': how many values and letters a reading holds, each counted each time it is reached (what is shared counts as often as it is met; a slice's spare places count too). A statement '..UptoSaid' is the law's where the arguments, and the package variables that the reading takes, are together of bulk at most 1048576: NARROWER than '..Said'. Prove '..Said' where nothing that the law and all that it calls make is longer than what came in: it says more and counts as full. Else prove '..UptoSaid'. A law counts once. -/
mutual
def uptoBulk {H : Type} : DataW H → Nat
  | .lit (.string bytes) => bytes.length + 1
  | .lit _ => 1
  | .nil => 1
  | .ptr d => uptoBulk d + 1
  | .slice elems spare => uptoBulkAll elems + uptoBulkAll spare + 1
  | .agg parts => uptoBulkAll parts + 1
  | .iface _ d => uptoBulk d + 1
  | .map entries => uptoBulkEntries entries + 1
  | .held _ => 1
def uptoBulkAll {H : Type} : List (DataW H) → Nat
  | [] => 0
  | d :: r => uptoBulk d + uptoBulkAll r
def uptoBulkEntries {H : Type} : List (Lit × DataW H) → Nat
  | [] => 0
  | x :: r => uptoBulkEntry x + uptoBulkEntries r
def uptoBulkEntry {H : Type} : Lit × DataW H → Nat
  | (.string bytes, d) => bytes.length + uptoBulk d + 1
  | (_, d) => uptoBulk d + 1
 end
def uptoSmall : (H : Type) → List (DataW H) → Bool := fun _ ds => decide (uptoBulkAll ds ≤ 1048576)
def OpenSpec.upto (s : _root_.Go.ChangeSpec) : _root_.Go.OpenSpec := { _root_.Go.OpenSpec.ofChange s with cond := some uptoSmall }

/-- 'amalgamlaw06.BagPlays', WHERE WHAT IT READS IS OF BULK AT MOST 1048576: true; the input reads as it did. -/
def bagPlaysUptoRow : OpenClaim := { program := "ytlbmamkkbpjafaa", sum := "61dbaf57ed80431352b02db5caa8049c38e3495c298cf1040c4f8542f5d772ec", func := "amalgam/amalgamlaw06.BagPlays", spec := "bagPlays", inPlace := ["slices.overlaps[amalgam/bag.Item[amalgam/amalgamref06.Thing]]"], unfollowed := true, recurses := true, apart := false, narrowed := true }
def BagPlaysUptoSaid : Prop := bagPlaysUptoRow.holds Try.pinned (OpenSpec.upto bagPlaysSpec)

/-- 'amalgamlaw06.BagPairs', WHERE WHAT IT READS IS OF BULK AT MOST 1048576: true; the input reads as it did. -/
def bagPairsUptoRow : OpenClaim := { program := "ytlbmamkkbpjafaa", sum := "61dbaf57ed80431352b02db5caa8049c38e3495c298cf1040c4f8542f5d772ec", func := "amalgam/amalgamlaw06.BagPairs", spec := "bagPairs", inPlace := ["slices.overlaps[amalgam/bag.Item[amalgam/amalgamref06.Thing]]"], unfollowed := true, recurses := true, apart := false, narrowed := true }
def BagPairsUptoSaid : Prop := bagPairsUptoRow.holds Try.pinned (OpenSpec.upto bagPairsSpec)

/-- 'amalgamlaw06.BagOf', WHERE WHAT IT READS IS OF BULK AT MOST 1048576: true; the input reads as it did. -/
def bagOfUptoRow : OpenClaim := { program := "ytlbmamkkbpjafaa", sum := "61dbaf57ed80431352b02db5caa8049c38e3495c298cf1040c4f8542f5d772ec", func := "amalgam/amalgamlaw06.BagOf", spec := "bagOf", inPlace := ["slices.overlaps[amalgam/bag.Item[amalgam/amalgamref06.Thing]]"], unfollowed := true, recurses := true, apart := false, narrowed := true }
def BagOfUptoSaid : Prop := bagOfUptoRow.holds Try.pinned (OpenSpec.upto bagOfSpec)

/-- 'amalgamlaw06.BagNone', WHERE WHAT IT READS IS OF BULK AT MOST 1048576: true; the input reads as it did. -/
def bagNoneUptoRow : OpenClaim := { program := "ytlbmamkkbpjafaa", sum := "61dbaf57ed80431352b02db5caa8049c38e3495c298cf1040c4f8542f5d772ec", func := "amalgam/amalgamlaw06.BagNone", spec := "bagNone", inPlace := ["slices.overlaps[amalgam/bag.Item[amalgam/amalgamref06.Thing]]"], unfollowed := true, recurses := true, apart := false, narrowed := true }
def BagNoneUptoSaid : Prop := bagNoneUptoRow.holds Try.pinned (OpenSpec.upto bagNoneSpec)

/-- 'amalgamlaw06.BagParts', WHERE WHAT IT READS IS OF BULK AT MOST 1048576: true; the input reads as it did. -/
def bagPartsUptoRow : OpenClaim := { program := "ytlbmamkkbpjafaa", sum := "61dbaf57ed80431352b02db5caa8049c38e3495c298cf1040c4f8542f5d772ec", func := "amalgam/amalgamlaw06.BagParts", spec := "bagParts", inPlace := ["slices.overlaps[amalgam/bag.Item[amalgam/amalgamref06.Thing]]"], unfollowed := true, recurses := true, apart := false, narrowed := true }
def BagPartsUptoSaid : Prop := bagPartsUptoRow.holds Try.pinned (OpenSpec.upto bagPartsSpec)

/-- 'amalgamlaw06.BagBack', WHERE WHAT IT READS IS OF BULK AT MOST 1048576: true; the input reads as it did. -/
def bagBackUptoRow : OpenClaim := { program := "ytlbmamkkbpjafaa", sum := "61dbaf57ed80431352b02db5caa8049c38e3495c298cf1040c4f8542f5d772ec", func := "amalgam/amalgamlaw06.BagBack", spec := "bagBack", inPlace := ["slices.overlaps[amalgam/bag.Item[amalgam/amalgamref06.Thing]]"], unfollowed := true, recurses := true, apart := false, narrowed := true }
def BagBackUptoSaid : Prop := bagBackUptoRow.holds Try.pinned (OpenSpec.upto bagBackSpec)

end Rows
end Go.Proofs.Ytlbmamkkbpjafaa
