/-
  No cell of these rows narrows 'for every input' (looked for: loops, veiled, ifaces, maps, wideKeys, modest, calm, conditions, laid).
  DERIVED. THE GIVEN ROWS OF THIS SEAT. 6 by the template 'for every input the law returns true; each argument reads behind the call as it read before'; 0 by the template 'total and deterministic' (their statements: YtbdkogccjnmfoaaTotals.lean).
  GIVEN WITH THE SEED: the statements are not yours to turn. If you find one false, say at which input.
  Laid BY PROGRAM, IN A SANDBOX (cutbox-rows.mjs): the forced cells as the released guide's own fill.sh prints them over the translation 8c282346cba92a04… (all of the seat's roots in one cut). By AI agents, Wed Nov 11 2026. No macro, syntax, notation, axiom, sorry.
-/
import Derived.Test.YtbdkogccjnmfoaaChecked
import GoSem.Claim
import GoSem.ClaimJoined
import GoSem.ClaimMapViews
import Derived.JoinedTies
import Derived.KernelRfl
namespace Go.Proofs.Ytbdkogccjnmfoaa
/- THE CELL 'sum', in the pinned program and in every row, IS THE sha256 OF THE DUMP (.gsa) THAT YtbdkogccjnmfoaaProg.lean LOADS. Nothing in Lean hashes anything: it is a label: what it is worth is what the hold of that sum in a sandbox is worth. -/
noncomputable def Try.pinned : Pinned := { name := "ytbdkogccjnmfoaa", sum := "8c282346cba92a04d358fa58fafb010f816e5cfe9097ff464280c8794c1f3843", checked := Try.checked }
namespace Rows
def none {H : Type} : Left H := { results := [], args := [] }

/-- 'amalgamlaw09.LinsolveNames': WHATEVER THE INPUT: true; the input reads as it did. -/
def linsolveNamesSpec : ChangeSpec := { name := "linsolveNames", fn := fun _ => fun
  | [] => { results := [.lit (.bool true)], args := [] }
  | _ => none }
def linsolveNamesRow : OpenClaim := { program := "ytbdkogccjnmfoaa", sum := "8c282346cba92a04d358fa58fafb010f816e5cfe9097ff464280c8794c1f3843", func := "amalgam/amalgamlaw09.LinsolveNames", spec := "linsolveNames", unfollowed := true, recurses := true, apart := false }
def LinsolveNamesSaid : Prop := linsolveNamesRow.holds Try.pinned (OpenSpec.ofChange linsolveNamesSpec)

/-- ITS FALSE NEIGHBOUR: 'it returns false'. Refute it at one input. -/
def linsolveNamesWrong : ChangeSpec := { name := "linsolveNames", fn := fun _ => fun
  | [] => { results := [.lit (.bool false)], args := [] }
  | _ => none }
def LinsolveNamesWrongFalsely : Prop := linsolveNamesRow.holds Try.pinned (OpenSpec.ofChange linsolveNamesWrong)

/-- 'amalgamlaw09.LinsolveBasis': WHATEVER THE INPUT: true; the input reads as it did. -/
def linsolveBasisSpec : ChangeSpec := { name := "linsolveBasis", fn := fun _ => fun
  | [d1, d2] => { results := [.lit (.bool true)], args := [d1, d2] }
  | _ => none }
def linsolveBasisRow : OpenClaim := { program := "ytbdkogccjnmfoaa", sum := "8c282346cba92a04d358fa58fafb010f816e5cfe9097ff464280c8794c1f3843", func := "amalgam/amalgamlaw09.LinsolveBasis", spec := "linsolveBasis", unfollowed := true, recurses := true, apart := false }
def LinsolveBasisSaid : Prop := linsolveBasisRow.holds Try.pinned (OpenSpec.ofChange linsolveBasisSpec)

/-- ITS FALSE NEIGHBOUR: 'it returns false'. Refute it at one input. -/
def linsolveBasisWrong : ChangeSpec := { name := "linsolveBasis", fn := fun _ => fun
  | [d1, d2] => { results := [.lit (.bool false)], args := [d1, d2] }
  | _ => none }
def LinsolveBasisWrongFalsely : Prop := linsolveBasisRow.holds Try.pinned (OpenSpec.ofChange linsolveBasisWrong)

/-- 'amalgamlaw09.LinsolveAll': WHATEVER THE INPUT: true; the input reads as it did. -/
def linsolveAllSpec : ChangeSpec := { name := "linsolveAll", fn := fun _ => fun
  | [d1, d2, d3] => { results := [.lit (.bool true)], args := [d1, d2, d3] }
  | _ => none }
def linsolveAllRow : OpenClaim := { program := "ytbdkogccjnmfoaa", sum := "8c282346cba92a04d358fa58fafb010f816e5cfe9097ff464280c8794c1f3843", func := "amalgam/amalgamlaw09.LinsolveAll", spec := "linsolveAll", unfollowed := true, recurses := true, apart := false }
def LinsolveAllSaid : Prop := linsolveAllRow.holds Try.pinned (OpenSpec.ofChange linsolveAllSpec)

/-- ITS FALSE NEIGHBOUR: 'it returns false'. Refute it at one input. -/
def linsolveAllWrong : ChangeSpec := { name := "linsolveAll", fn := fun _ => fun
  | [d1, d2, d3] => { results := [.lit (.bool false)], args := [d1, d2, d3] }
  | _ => none }
def LinsolveAllWrongFalsely : Prop := linsolveAllRow.holds Try.pinned (OpenSpec.ofChange linsolveAllWrong)

/-- 'amalgamlaw09.LinsolveSolves': WHATEVER THE INPUT: true; the input reads as it did. -/
def linsolveSolvesSpec : ChangeSpec := { name := "linsolveSolves", fn := fun _ => fun
  | [d1, d2, d3] => { results := [.lit (.bool true)], args := [d1, d2, d3] }
  | _ => none }
def linsolveSolvesRow : OpenClaim := { program := "ytbdkogccjnmfoaa", sum := "8c282346cba92a04d358fa58fafb010f816e5cfe9097ff464280c8794c1f3843", func := "amalgam/amalgamlaw09.LinsolveSolves", spec := "linsolveSolves", unfollowed := true, recurses := true, apart := false }
def LinsolveSolvesSaid : Prop := linsolveSolvesRow.holds Try.pinned (OpenSpec.ofChange linsolveSolvesSpec)

/-- ITS FALSE NEIGHBOUR: 'it returns false'. Refute it at one input. -/
def linsolveSolvesWrong : ChangeSpec := { name := "linsolveSolves", fn := fun _ => fun
  | [d1, d2, d3] => { results := [.lit (.bool false)], args := [d1, d2, d3] }
  | _ => none }
def LinsolveSolvesWrongFalsely : Prop := linsolveSolvesRow.holds Try.pinned (OpenSpec.ofChange linsolveSolvesWrong)

/-- 'amalgamlaw09.LinsolveTakes': WHATEVER THE INPUT: true; the input reads as it did. -/
def linsolveTakesSpec : ChangeSpec := { name := "linsolveTakes", fn := fun _ => fun
  | [d1, d2] => { results := [.lit (.bool true)], args := [d1, d2] }
  | _ => none }
def linsolveTakesRow : OpenClaim := { program := "ytbdkogccjnmfoaa", sum := "8c282346cba92a04d358fa58fafb010f816e5cfe9097ff464280c8794c1f3843", func := "amalgam/amalgamlaw09.LinsolveTakes", spec := "linsolveTakes", unfollowed := true, recurses := true, apart := false }
def LinsolveTakesSaid : Prop := linsolveTakesRow.holds Try.pinned (OpenSpec.ofChange linsolveTakesSpec)

/-- ITS FALSE NEIGHBOUR: 'it returns false'. Refute it at one input. -/
def linsolveTakesWrong : ChangeSpec := { name := "linsolveTakes", fn := fun _ => fun
  | [d1, d2] => { results := [.lit (.bool false)], args := [d1, d2] }
  | _ => none }
def LinsolveTakesWrongFalsely : Prop := linsolveTakesRow.holds Try.pinned (OpenSpec.ofChange linsolveTakesWrong)

/-- 'amalgamlaw09.LinsolveSum': WHATEVER THE INPUT: true; the input reads as it did. -/
def linsolveSumSpec : ChangeSpec := { name := "linsolveSum", fn := fun _ => fun
  | [d1, d2, d3] => { results := [.lit (.bool true)], args := [d1, d2, d3] }
  | _ => none }
def linsolveSumRow : OpenClaim := { program := "ytbdkogccjnmfoaa", sum := "8c282346cba92a04d358fa58fafb010f816e5cfe9097ff464280c8794c1f3843", func := "amalgam/amalgamlaw09.LinsolveSum", spec := "linsolveSum", unfollowed := true, recurses := true, apart := false }
def LinsolveSumSaid : Prop := linsolveSumRow.holds Try.pinned (OpenSpec.ofChange linsolveSumSpec)

/-- ITS FALSE NEIGHBOUR: 'it returns false'. Refute it at one input. -/
def linsolveSumWrong : ChangeSpec := { name := "linsolveSum", fn := fun _ => fun
  | [d1, d2, d3] => { results := [.lit (.bool false)], args := [d1, d2, d3] }
  | _ => none }
def LinsolveSumWrongFalsely : Prop := linsolveSumRow.holds Try.pinned (OpenSpec.ofChange linsolveSumWrong)

/- THE SECOND FORM. 'bulk': how many values and letters a reading holds, each counted each time it is reached (what is shared counts as often as it is met; a slice's spare places count too). A statement '..UptoSaid' is the law's where the arguments, and the package variables that the reading takes, are together of bulk at most 1048576: NARROWER than '..Said'. Prove '..Said' where nothing that the law and all that it calls make is longer than what came in: it says more and counts as full. Else prove '..UptoSaid'. A law counts once. -/
mutual
def uptoBulk {H : Type} : DataW H → Nat
  | .lit (.string bytes) => bytes.length + 1
  | .lit _ => 1
  | .nil => 1
  | .ptr d => uptoBulk d + 1
  | .slice elems spare => uptoBulkAll elems + uptoBulkAll spare + 1
  | .agg parts => uptoBulkAll parts + 1
  | .iface _ d => uptoBulk d + 1
  | .map entries => uptoBulkEntries entries + 1
  | .held _ => 1
def uptoBulkAll {H : Type} : List (DataW H) → Nat
  | [] => 0
  | d :: r => uptoBulk d + uptoBulkAll r
def uptoBulkEntries {H : Type} : List (Lit × DataW H) → Nat
  | [] => 0
  | x :: r => uptoBulkEntry x + uptoBulkEntries r
def uptoBulkEntry {H : Type} : Lit × DataW H → Nat
  | (.string bytes, d) => bytes.length + uptoBulk d + 1
  | (_, d) => uptoBulk d + 1
 end
def uptoSmall : (H : Type) → List (DataW H) → Bool := fun _ ds => decide (uptoBulkAll ds ≤ 1048576)
def OpenSpec.upto (s : _root_.Go.ChangeSpec) : _root_.Go.OpenSpec := { _root_.Go.OpenSpec.ofChange s with cond := some uptoSmall }

/-- 'amalgamlaw09.LinsolveNames', WHERE WHAT IT READS IS OF BULK AT MOST 1048576: true; the input reads as it did. -/
def linsolveNamesUptoRow : OpenClaim := { program := "ytbdkogccjnmfoaa", sum := "8c282346cba92a04d358fa58fafb010f816e5cfe9097ff464280c8794c1f3843", func := "amalgam/amalgamlaw09.LinsolveNames", spec := "linsolveNames", unfollowed := true, recurses := true, apart := false, narrowed := true }
def LinsolveNamesUptoSaid : Prop := linsolveNamesUptoRow.holds Try.pinned (OpenSpec.upto linsolveNamesSpec)

/-- 'amalgamlaw09.LinsolveBasis', WHERE WHAT IT READS IS OF BULK AT MOST 1048576: true; the input reads as it did. -/
def linsolveBasisUptoRow : OpenClaim := { program := "ytbdkogccjnmfoaa", sum := "8c282346cba92a04d358fa58fafb010f816e5cfe9097ff464280c8794c1f3843", func := "amalgam/amalgamlaw09.LinsolveBasis", spec := "linsolveBasis", unfollowed := true, recurses := true, apart := false, narrowed := true }
def LinsolveBasisUptoSaid : Prop := linsolveBasisUptoRow.holds Try.pinned (OpenSpec.upto linsolveBasisSpec)

/-- 'amalgamlaw09.LinsolveAll', WHERE WHAT IT READS IS OF BULK AT MOST 1048576: true; the input reads as it did. -/
def linsolveAllUptoRow : OpenClaim := { program := "ytbdkogccjnmfoaa", sum := "8c282346cba92a04d358fa58fafb010f816e5cfe9097ff464280c8794c1f3843", func := "amalgam/amalgamlaw09.LinsolveAll", spec := "linsolveAll", unfollowed := true, recurses := true, apart := false, narrowed := true }
def LinsolveAllUptoSaid : Prop := linsolveAllUptoRow.holds Try.pinned (OpenSpec.upto linsolveAllSpec)

/-- 'amalgamlaw09.LinsolveSolves', WHERE WHAT IT READS IS OF BULK AT MOST 1048576: true; the input reads as it did. -/
def linsolveSolvesUptoRow : OpenClaim := { program := "ytbdkogccjnmfoaa", sum := "8c282346cba92a04d358fa58fafb010f816e5cfe9097ff464280c8794c1f3843", func := "amalgam/amalgamlaw09.LinsolveSolves", spec := "linsolveSolves", unfollowed := true, recurses := true, apart := false, narrowed := true }
def LinsolveSolvesUptoSaid : Prop := linsolveSolvesUptoRow.holds Try.pinned (OpenSpec.upto linsolveSolvesSpec)

/-- 'amalgamlaw09.LinsolveTakes', WHERE WHAT IT READS IS OF BULK AT MOST 1048576: true; the input reads as it did. -/
def linsolveTakesUptoRow : OpenClaim := { program := "ytbdkogccjnmfoaa", sum := "8c282346cba92a04d358fa58fafb010f816e5cfe9097ff464280c8794c1f3843", func := "amalgam/amalgamlaw09.LinsolveTakes", spec := "linsolveTakes", unfollowed := true, recurses := true, apart := false, narrowed := true }
def LinsolveTakesUptoSaid : Prop := linsolveTakesUptoRow.holds Try.pinned (OpenSpec.upto linsolveTakesSpec)

/-- 'amalgamlaw09.LinsolveSum', WHERE WHAT IT READS IS OF BULK AT MOST 1048576: true; the input reads as it did. -/
def linsolveSumUptoRow : OpenClaim := { program := "ytbdkogccjnmfoaa", sum := "8c282346cba92a04d358fa58fafb010f816e5cfe9097ff464280c8794c1f3843", func := "amalgam/amalgamlaw09.LinsolveSum", spec := "linsolveSum", unfollowed := true, recurses := true, apart := false, narrowed := true }
def LinsolveSumUptoSaid : Prop := linsolveSumUptoRow.holds Try.pinned (OpenSpec.upto linsolveSumSpec)

end Rows
end Go.Proofs.Ytbdkogccjnmfoaa
