/-
  NARROWER THAN 'FOR EVERY INPUT', by the rows' own cells (each row's printed sentence says how): TextShows: loops · TextBack: loops.
  DERIVED. THE GIVEN ROWS OF THIS SEAT. 6 by the template 'for every input the law returns true; each argument reads behind the call as it read before'; 0 by the template 'total and deterministic' (their statements: YtkcbhbkldcebiaaTotals.lean).
  GIVEN WITH THE SEED: the statements are not yours to turn. If you find one false, say at which input.
  Laid BY PROGRAM, IN A SANDBOX (cutbox-rows.mjs): the forced cells as the released guide's own fill.sh prints them over the translation 156bba9152155a95… (all of the seat's roots in one cut). By AI agents, Wed Nov 11 2026. No macro, syntax, notation, axiom, sorry.
-/
import Derived.Test.YtkcbhbkldcebiaaChecked
import GoSem.Claim
import GoSem.ClaimJoined
import GoSem.ClaimMapViews
import Derived.JoinedTies
import Derived.KernelRfl
namespace Go.Proofs.Ytkcbhbkldcebiaa
/- THE CELL 'sum', in the pinned program and in every row, IS THE sha256 OF THE DUMP (.gsa) THAT YtkcbhbkldcebiaaProg.lean LOADS. Nothing in Lean hashes anything: it is a label: what it is worth is what the hold of that sum in a sandbox is worth. -/
noncomputable def Try.pinned : Pinned := { name := "ytkcbhbkldcebiaa", sum := "156bba9152155a9574217d0d579085384c410c6c42e6cbe59920ac6486dd5333", checked := Try.checked }
namespace Rows
def none {H : Type} : Left H := { results := [], args := [] }

/-- 'amalgamlaw05.TextTerms': WHATEVER THE INPUT: true; the input reads as it did. -/
def textTermsSpec : ChangeSpec := { name := "textTerms", fn := fun _ => fun
  | [d1, d2] => { results := [.lit (.bool true)], args := [d1, d2] }
  | _ => none }
def textTermsRow : OpenClaim := { program := "ytkcbhbkldcebiaa", sum := "156bba9152155a9574217d0d579085384c410c6c42e6cbe59920ac6486dd5333", func := "amalgam/amalgamlaw05.TextTerms", spec := "textTerms", inPlace := ["internal/abi.NoEscape"], unfollowed := true, recurses := true, apart := false }
def TextTermsSaid : Prop := textTermsRow.holds Try.pinned (OpenSpec.ofChange textTermsSpec)

/-- ITS FALSE NEIGHBOUR: 'it returns false'. Refute it at one input. -/
def textTermsWrong : ChangeSpec := { name := "textTerms", fn := fun _ => fun
  | [d1, d2] => { results := [.lit (.bool false)], args := [d1, d2] }
  | _ => none }
def TextTermsWrongFalsely : Prop := textTermsRow.holds Try.pinned (OpenSpec.ofChange textTermsWrong)

/-- 'amalgamlaw05.TextEquations': WHATEVER THE INPUT: true; the input reads as it did. -/
def textEquationsSpec : ChangeSpec := { name := "textEquations", fn := fun _ => fun
  | [d1, d2] => { results := [.lit (.bool true)], args := [d1, d2] }
  | _ => none }
def textEquationsRow : OpenClaim := { program := "ytkcbhbkldcebiaa", sum := "156bba9152155a9574217d0d579085384c410c6c42e6cbe59920ac6486dd5333", func := "amalgam/amalgamlaw05.TextEquations", spec := "textEquations", inPlace := ["internal/abi.NoEscape"], unfollowed := true, recurses := true, apart := false }
def TextEquationsSaid : Prop := textEquationsRow.holds Try.pinned (OpenSpec.ofChange textEquationsSpec)

/-- ITS FALSE NEIGHBOUR: 'it returns false'. Refute it at one input. -/
def textEquationsWrong : ChangeSpec := { name := "textEquations", fn := fun _ => fun
  | [d1, d2] => { results := [.lit (.bool false)], args := [d1, d2] }
  | _ => none }
def TextEquationsWrongFalsely : Prop := textEquationsRow.holds Try.pinned (OpenSpec.ofChange textEquationsWrong)

/-- 'amalgamlaw05.TextBinds': WHATEVER THE INPUT: true; the input reads as it did. -/
def textBindsSpec : ChangeSpec := { name := "textBinds", fn := fun _ => fun
  | [d1, d2] => { results := [.lit (.bool true)], args := [d1, d2] }
  | _ => none }
def textBindsRow : OpenClaim := { program := "ytkcbhbkldcebiaa", sum := "156bba9152155a9574217d0d579085384c410c6c42e6cbe59920ac6486dd5333", func := "amalgam/amalgamlaw05.TextBinds", spec := "textBinds", inPlace := ["internal/abi.NoEscape"], unfollowed := true, recurses := true, apart := false }
def TextBindsSaid : Prop := textBindsRow.holds Try.pinned (OpenSpec.ofChange textBindsSpec)

/-- ITS FALSE NEIGHBOUR: 'it returns false'. Refute it at one input. -/
def textBindsWrong : ChangeSpec := { name := "textBinds", fn := fun _ => fun
  | [d1, d2] => { results := [.lit (.bool false)], args := [d1, d2] }
  | _ => none }
def TextBindsWrongFalsely : Prop := textBindsRow.holds Try.pinned (OpenSpec.ofChange textBindsWrong)

/-- 'amalgamlaw05.TextShows': WHATEVER THE INPUT: true; the input reads as it did. -/
def textShowsSpec : ChangeSpec := { name := "textShows", fn := fun _ => fun
  | [d] => { results := [.lit (.bool true)], args := [d] }
  | _ => none }
def textShowsRow : OpenClaim := { program := "ytkcbhbkldcebiaa", sum := "156bba9152155a9574217d0d579085384c410c6c42e6cbe59920ac6486dd5333", func := "amalgam/amalgamlaw05.TextShows", spec := "textShows", inPlace := ["internal/abi.NoEscape"], unfollowed := true, recurses := true, loops := true, apart := false }
def TextShowsSaid : Prop := textShowsRow.holds Try.pinned (OpenSpec.ofChange textShowsSpec)

/-- ITS FALSE NEIGHBOUR: 'it returns false'. Refute it at one input. -/
def textShowsWrong : ChangeSpec := { name := "textShows", fn := fun _ => fun
  | [d] => { results := [.lit (.bool false)], args := [d] }
  | _ => none }
def TextShowsWrongFalsely : Prop := textShowsRow.holds Try.pinned (OpenSpec.ofChange textShowsWrong)

/-- 'amalgamlaw05.TextBack': WHATEVER THE INPUT: true; the input reads as it did. -/
def textBackSpec : ChangeSpec := { name := "textBack", fn := fun _ => fun
  | [d] => { results := [.lit (.bool true)], args := [d] }
  | _ => none }
def textBackRow : OpenClaim := { program := "ytkcbhbkldcebiaa", sum := "156bba9152155a9574217d0d579085384c410c6c42e6cbe59920ac6486dd5333", func := "amalgam/amalgamlaw05.TextBack", spec := "textBack", inPlace := ["internal/abi.NoEscape"], unfollowed := true, recurses := true, loops := true, apart := false }
def TextBackSaid : Prop := textBackRow.holds Try.pinned (OpenSpec.ofChange textBackSpec)

/-- ITS FALSE NEIGHBOUR: 'it returns false'. Refute it at one input. -/
def textBackWrong : ChangeSpec := { name := "textBack", fn := fun _ => fun
  | [d] => { results := [.lit (.bool false)], args := [d] }
  | _ => none }
def TextBackWrongFalsely : Prop := textBackRow.holds Try.pinned (OpenSpec.ofChange textBackWrong)

/-- 'amalgamlaw05.TextBlanks': WHATEVER THE INPUT: true; the input reads as it did. -/
def textBlanksSpec : ChangeSpec := { name := "textBlanks", fn := fun _ => fun
  | [d1, d2] => { results := [.lit (.bool true)], args := [d1, d2] }
  | _ => none }
def textBlanksRow : OpenClaim := { program := "ytkcbhbkldcebiaa", sum := "156bba9152155a9574217d0d579085384c410c6c42e6cbe59920ac6486dd5333", func := "amalgam/amalgamlaw05.TextBlanks", spec := "textBlanks", inPlace := ["internal/abi.NoEscape"], unfollowed := true, recurses := true, apart := false }
def TextBlanksSaid : Prop := textBlanksRow.holds Try.pinned (OpenSpec.ofChange textBlanksSpec)

/-- ITS FALSE NEIGHBOUR: 'it returns false'. Refute it at one input. -/
def textBlanksWrong : ChangeSpec := { name := "textBlanks", fn := fun _ => fun
  | [d1, d2] => { results := [.lit (.bool false)], args := [d1, d2] }
  | _ => none }
def TextBlanksWrongFalsely : Prop := textBlanksRow.holds Try.pinned (OpenSpec.ofChange textBlanksWrong)

/- THE SECOND FORM. 'bulk': how many values and letters a reading holds, each counted each time it is reached (what is shared counts as often as it is met; a slice's spare places count too). A statement '..UptoSaid' is the law's where the arguments, and the package variables that the reading takes, are together of bulk at most 1048576: NARROWER than '..Said'. Prove '..Said' where nothing that the law and all that it calls make is longer than what came in: it says more and counts as full. Else prove '..UptoSaid'. A law counts once. -/
mutual
def uptoBulk {H : Type} : DataW H → Nat
  | .lit (.string bytes) => bytes.length + 1
  | .lit _ => 1
  | .nil => 1
  | .ptr d => uptoBulk d + 1
  | .slice elems spare => uptoBulkAll elems + uptoBulkAll spare + 1
  | .agg parts => uptoBulkAll parts + 1
  | .iface _ d => uptoBulk d + 1
  | .map entries => uptoBulkEntries entries + 1
  | .held _ => 1
def uptoBulkAll {H : Type} : List (DataW H) → Nat
  | [] => 0
  | d :: r => uptoBulk d + uptoBulkAll r
def uptoBulkEntries {H : Type} : List (Lit × DataW H) → Nat
  | [] => 0
  | x :: r => uptoBulkEntry x + uptoBulkEntries r
def uptoBulkEntry {H : Type} : Lit × DataW H → Nat
  | (.string bytes, d) => bytes.length + uptoBulk d + 1
  | (_, d) => uptoBulk d + 1
 end
def uptoSmall : (H : Type) → List (DataW H) → Bool := fun _ ds => decide (uptoBulkAll ds ≤ 1048576)
def OpenSpec.upto (s : _root_.Go.ChangeSpec) : _root_.Go.OpenSpec := { _root_.Go.OpenSpec.ofChange s with cond := some uptoSmall }

/-- 'amalgamlaw05.TextTerms', WHERE WHAT IT READS IS OF BULK AT MOST 1048576: true; the input reads as it did. -/
def textTermsUptoRow : OpenClaim := { program := "ytkcbhbkldcebiaa", sum := "156bba9152155a9574217d0d579085384c410c6c42e6cbe59920ac6486dd5333", func := "amalgam/amalgamlaw05.TextTerms", spec := "textTerms", inPlace := ["internal/abi.NoEscape"], unfollowed := true, recurses := true, apart := false, narrowed := true }
def TextTermsUptoSaid : Prop := textTermsUptoRow.holds Try.pinned (OpenSpec.upto textTermsSpec)

/-- 'amalgamlaw05.TextEquations', WHERE WHAT IT READS IS OF BULK AT MOST 1048576: true; the input reads as it did. -/
def textEquationsUptoRow : OpenClaim := { program := "ytkcbhbkldcebiaa", sum := "156bba9152155a9574217d0d579085384c410c6c42e6cbe59920ac6486dd5333", func := "amalgam/amalgamlaw05.TextEquations", spec := "textEquations", inPlace := ["internal/abi.NoEscape"], unfollowed := true, recurses := true, apart := false, narrowed := true }
def TextEquationsUptoSaid : Prop := textEquationsUptoRow.holds Try.pinned (OpenSpec.upto textEquationsSpec)

/-- 'amalgamlaw05.TextBinds', WHERE WHAT IT READS IS OF BULK AT MOST 1048576: true; the input reads as it did. -/
def textBindsUptoRow : OpenClaim := { program := "ytkcbhbkldcebiaa", sum := "156bba9152155a9574217d0d579085384c410c6c42e6cbe59920ac6486dd5333", func := "amalgam/amalgamlaw05.TextBinds", spec := "textBinds", inPlace := ["internal/abi.NoEscape"], unfollowed := true, recurses := true, apart := false, narrowed := true }
def TextBindsUptoSaid : Prop := textBindsUptoRow.holds Try.pinned (OpenSpec.upto textBindsSpec)

/-- 'amalgamlaw05.TextShows', WHERE WHAT IT READS IS OF BULK AT MOST 1048576: true; the input reads as it did. -/
def textShowsUptoRow : OpenClaim := { program := "ytkcbhbkldcebiaa", sum := "156bba9152155a9574217d0d579085384c410c6c42e6cbe59920ac6486dd5333", func := "amalgam/amalgamlaw05.TextShows", spec := "textShows", inPlace := ["internal/abi.NoEscape"], unfollowed := true, recurses := true, loops := true, apart := false, narrowed := true }
def TextShowsUptoSaid : Prop := textShowsUptoRow.holds Try.pinned (OpenSpec.upto textShowsSpec)

/-- 'amalgamlaw05.TextBack', WHERE WHAT IT READS IS OF BULK AT MOST 1048576: true; the input reads as it did. -/
def textBackUptoRow : OpenClaim := { program := "ytkcbhbkldcebiaa", sum := "156bba9152155a9574217d0d579085384c410c6c42e6cbe59920ac6486dd5333", func := "amalgam/amalgamlaw05.TextBack", spec := "textBack", inPlace := ["internal/abi.NoEscape"], unfollowed := true, recurses := true, loops := true, apart := false, narrowed := true }
def TextBackUptoSaid : Prop := textBackUptoRow.holds Try.pinned (OpenSpec.upto textBackSpec)

/-- 'amalgamlaw05.TextBlanks', WHERE WHAT IT READS IS OF BULK AT MOST 1048576: true; the input reads as it did. -/
def textBlanksUptoRow : OpenClaim := { program := "ytkcbhbkldcebiaa", sum := "156bba9152155a9574217d0d579085384c410c6c42e6cbe59920ac6486dd5333", func := "amalgam/amalgamlaw05.TextBlanks", spec := "textBlanks", inPlace := ["internal/abi.NoEscape"], unfollowed := true, recurses := true, apart := false, narrowed := true }
def TextBlanksUptoSaid : Prop := textBlanksUptoRow.holds Try.pinned (OpenSpec.upto textBlanksSpec)

end Rows
end Go.Proofs.Ytkcbhbkldcebiaa
