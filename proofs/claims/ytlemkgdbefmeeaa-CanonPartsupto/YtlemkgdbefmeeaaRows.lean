/-
  NARROWER THAN 'FOR EVERY INPUT', by the rows' own cells (each row's printed sentence says how): CanonTells: loops · CanonParts: loops · CanonStays: loops · CanonAxioms: loops · CanonWithin: loops · CanonCancels: loops.
  DERIVED. THE GIVEN ROWS OF THIS SEAT. 6 by the template 'for every input the law returns true; each argument reads behind the call as it read before'; 0 by the template 'total and deterministic' (their statements: YtlemkgdbefmeeaaTotals.lean).
  GIVEN WITH THE SEED: the statements are not yours to turn. If you find one false, say at which input.
  Laid BY PROGRAM, IN A SANDBOX (cutbox-rows.mjs): the forced cells as the released guide's own fill.sh prints them over the translation 4daee74fb5ce3742… (all of the seat's roots in one cut). By AI agents, Wed Nov 11 2026. No macro, syntax, notation, axiom, sorry.
-/
import Derived.Test.YtlemkgdbefmeeaaChecked
import GoSem.Claim
import GoSem.ClaimJoined
import GoSem.ClaimMapViews
import Derived.JoinedTies
import Derived.KernelRfl
namespace Go.Proofs.Ytlemkgdbefmeeaa
/- THE CELL 'sum', in the pinned program and in every row, IS THE sha256 OF THE DUMP (.gsa) THAT YtlemkgdbefmeeaaProg.lean LOADS. Nothing in Lean hashes anything: it is a label: what it is worth is what the hold of that sum in a sandbox is worth. -/
noncomputable def Try.pinned : Pinned := { name := "ytlemkgdbefmeeaa", sum := "4daee74fb5ce3742021b5e97f7a025d0ed7b7579a0b48e54296096206bbda138", checked := Try.checked }
namespace Rows
def none {H : Type} : Left H := { results := [], args := [] }

/-- 'amalgamlaw04.CanonTells': WHATEVER THE INPUT: true; the input reads as it did. -/
def canonTellsSpec : ChangeSpec := { name := "canonTells", fn := fun _ => fun
  | [d] => { results := [.lit (.bool true)], args := [d] }
  | _ => none }
def canonTellsRow : OpenClaim := { program := "ytlemkgdbefmeeaa", sum := "4daee74fb5ce3742021b5e97f7a025d0ed7b7579a0b48e54296096206bbda138", func := "amalgam/amalgamlaw04.CanonTells", spec := "canonTells", inPlace := ["internal/bytealg.abigen_runtime_cmpstring"], unfollowed := true, recurses := true, loops := true, apart := false }
def CanonTellsSaid : Prop := canonTellsRow.holds Try.pinned (OpenSpec.ofChange canonTellsSpec)

/-- ITS FALSE NEIGHBOUR: 'it returns false'. Refute it at one input. -/
def canonTellsWrong : ChangeSpec := { name := "canonTells", fn := fun _ => fun
  | [d] => { results := [.lit (.bool false)], args := [d] }
  | _ => none }
def CanonTellsWrongFalsely : Prop := canonTellsRow.holds Try.pinned (OpenSpec.ofChange canonTellsWrong)

/-- 'amalgamlaw04.CanonParts': WHATEVER THE INPUT: true; the input reads as it did. -/
def canonPartsSpec : ChangeSpec := { name := "canonParts", fn := fun _ => fun
  | [d] => { results := [.lit (.bool true)], args := [d] }
  | _ => none }
def canonPartsRow : OpenClaim := { program := "ytlemkgdbefmeeaa", sum := "4daee74fb5ce3742021b5e97f7a025d0ed7b7579a0b48e54296096206bbda138", func := "amalgam/amalgamlaw04.CanonParts", spec := "canonParts", inPlace := ["internal/bytealg.abigen_runtime_cmpstring"], unfollowed := true, recurses := true, loops := true, apart := false }
def CanonPartsSaid : Prop := canonPartsRow.holds Try.pinned (OpenSpec.ofChange canonPartsSpec)

/-- ITS FALSE NEIGHBOUR: 'it returns false'. Refute it at one input. -/
def canonPartsWrong : ChangeSpec := { name := "canonParts", fn := fun _ => fun
  | [d] => { results := [.lit (.bool false)], args := [d] }
  | _ => none }
def CanonPartsWrongFalsely : Prop := canonPartsRow.holds Try.pinned (OpenSpec.ofChange canonPartsWrong)

/-- 'amalgamlaw04.CanonStays': WHATEVER THE INPUT: true; the input reads as it did. -/
def canonStaysSpec : ChangeSpec := { name := "canonStays", fn := fun _ => fun
  | [d] => { results := [.lit (.bool true)], args := [d] }
  | _ => none }
def canonStaysRow : OpenClaim := { program := "ytlemkgdbefmeeaa", sum := "4daee74fb5ce3742021b5e97f7a025d0ed7b7579a0b48e54296096206bbda138", func := "amalgam/amalgamlaw04.CanonStays", spec := "canonStays", inPlace := ["internal/bytealg.abigen_runtime_cmpstring"], unfollowed := true, recurses := true, loops := true, apart := false }
def CanonStaysSaid : Prop := canonStaysRow.holds Try.pinned (OpenSpec.ofChange canonStaysSpec)

/-- ITS FALSE NEIGHBOUR: 'it returns false'. Refute it at one input. -/
def canonStaysWrong : ChangeSpec := { name := "canonStays", fn := fun _ => fun
  | [d] => { results := [.lit (.bool false)], args := [d] }
  | _ => none }
def CanonStaysWrongFalsely : Prop := canonStaysRow.holds Try.pinned (OpenSpec.ofChange canonStaysWrong)

/-- 'amalgamlaw04.CanonAxioms': WHATEVER THE INPUT: true; the input reads as it did. -/
def canonAxiomsSpec : ChangeSpec := { name := "canonAxioms", fn := fun _ => fun
  | [d] => { results := [.lit (.bool true)], args := [d] }
  | _ => none }
def canonAxiomsRow : OpenClaim := { program := "ytlemkgdbefmeeaa", sum := "4daee74fb5ce3742021b5e97f7a025d0ed7b7579a0b48e54296096206bbda138", func := "amalgam/amalgamlaw04.CanonAxioms", spec := "canonAxioms", inPlace := ["internal/bytealg.abigen_runtime_cmpstring"], unfollowed := true, recurses := true, loops := true, apart := false }
def CanonAxiomsSaid : Prop := canonAxiomsRow.holds Try.pinned (OpenSpec.ofChange canonAxiomsSpec)

/-- ITS FALSE NEIGHBOUR: 'it returns false'. Refute it at one input. -/
def canonAxiomsWrong : ChangeSpec := { name := "canonAxioms", fn := fun _ => fun
  | [d] => { results := [.lit (.bool false)], args := [d] }
  | _ => none }
def CanonAxiomsWrongFalsely : Prop := canonAxiomsRow.holds Try.pinned (OpenSpec.ofChange canonAxiomsWrong)

/-- 'amalgamlaw04.CanonWithin': WHATEVER THE INPUT: true; the input reads as it did. -/
def canonWithinSpec : ChangeSpec := { name := "canonWithin", fn := fun _ => fun
  | [d1, d2] => { results := [.lit (.bool true)], args := [d1, d2] }
  | _ => none }
def canonWithinRow : OpenClaim := { program := "ytlemkgdbefmeeaa", sum := "4daee74fb5ce3742021b5e97f7a025d0ed7b7579a0b48e54296096206bbda138", func := "amalgam/amalgamlaw04.CanonWithin", spec := "canonWithin", inPlace := ["internal/bytealg.abigen_runtime_cmpstring"], unfollowed := true, recurses := true, loops := true, apart := false }
def CanonWithinSaid : Prop := canonWithinRow.holds Try.pinned (OpenSpec.ofChange canonWithinSpec)

/-- ITS FALSE NEIGHBOUR: 'it returns false'. Refute it at one input. -/
def canonWithinWrong : ChangeSpec := { name := "canonWithin", fn := fun _ => fun
  | [d1, d2] => { results := [.lit (.bool false)], args := [d1, d2] }
  | _ => none }
def CanonWithinWrongFalsely : Prop := canonWithinRow.holds Try.pinned (OpenSpec.ofChange canonWithinWrong)

/-- 'amalgamlaw04.CanonCancels': WHATEVER THE INPUT: true; the input reads as it did. -/
def canonCancelsSpec : ChangeSpec := { name := "canonCancels", fn := fun _ => fun
  | [d] => { results := [.lit (.bool true)], args := [d] }
  | _ => none }
def canonCancelsRow : OpenClaim := { program := "ytlemkgdbefmeeaa", sum := "4daee74fb5ce3742021b5e97f7a025d0ed7b7579a0b48e54296096206bbda138", func := "amalgam/amalgamlaw04.CanonCancels", spec := "canonCancels", inPlace := ["internal/bytealg.abigen_runtime_cmpstring"], unfollowed := true, recurses := true, loops := true, apart := false }
def CanonCancelsSaid : Prop := canonCancelsRow.holds Try.pinned (OpenSpec.ofChange canonCancelsSpec)

/-- ITS FALSE NEIGHBOUR: 'it returns false'. Refute it at one input. -/
def canonCancelsWrong : ChangeSpec := { name := "canonCancels", fn := fun _ => fun
  | [d] => { results := [.lit (.bool false)], args := [d] }
  | _ => none }
def CanonCancelsWrongFalsely : Prop := canonCancelsRow.holds Try.pinned (OpenSpec.ofChange canonCancelsWrong)

/- THE SECOND FORM. 'bulk': how many values and letters a reading holds, each counted each time it is reached (what is shared counts as often as it is met; a slice's spare places count too). A statement '..UptoSaid' is the law's where the arguments, and the package variables that the reading takes, are together of bulk at most 1048576: NARROWER than '..Said'. Prove '..Said' where nothing that the law and all that it calls make is longer than what came in: it says more and counts as full. Else prove '..UptoSaid'. A law counts once. -/
mutual
def uptoBulk {H : Type} : DataW H → Nat
  | .lit (.string bytes) => bytes.length + 1
  | .lit _ => 1
  | .nil => 1
  | .ptr d => uptoBulk d + 1
  | .slice elems spare => uptoBulkAll elems + uptoBulkAll spare + 1
  | .agg parts => uptoBulkAll parts + 1
  | .iface _ d => uptoBulk d + 1
  | .map entries => uptoBulkEntries entries + 1
  | .held _ => 1
def uptoBulkAll {H : Type} : List (DataW H) → Nat
  | [] => 0
  | d :: r => uptoBulk d + uptoBulkAll r
def uptoBulkEntries {H : Type} : List (Lit × DataW H) → Nat
  | [] => 0
  | x :: r => uptoBulkEntry x + uptoBulkEntries r
def uptoBulkEntry {H : Type} : Lit × DataW H → Nat
  | (.string bytes, d) => bytes.length + uptoBulk d + 1
  | (_, d) => uptoBulk d + 1
 end
def uptoSmall : (H : Type) → List (DataW H) → Bool := fun _ ds => decide (uptoBulkAll ds ≤ 1048576)
def OpenSpec.upto (s : _root_.Go.ChangeSpec) : _root_.Go.OpenSpec := { _root_.Go.OpenSpec.ofChange s with cond := some uptoSmall }

/-- 'amalgamlaw04.CanonTells', WHERE WHAT IT READS IS OF BULK AT MOST 1048576: true; the input reads as it did. -/
def canonTellsUptoRow : OpenClaim := { program := "ytlemkgdbefmeeaa", sum := "4daee74fb5ce3742021b5e97f7a025d0ed7b7579a0b48e54296096206bbda138", func := "amalgam/amalgamlaw04.CanonTells", spec := "canonTells", inPlace := ["internal/bytealg.abigen_runtime_cmpstring"], unfollowed := true, recurses := true, loops := true, apart := false, narrowed := true }
def CanonTellsUptoSaid : Prop := canonTellsUptoRow.holds Try.pinned (OpenSpec.upto canonTellsSpec)

/-- 'amalgamlaw04.CanonParts', WHERE WHAT IT READS IS OF BULK AT MOST 1048576: true; the input reads as it did. -/
def canonPartsUptoRow : OpenClaim := { program := "ytlemkgdbefmeeaa", sum := "4daee74fb5ce3742021b5e97f7a025d0ed7b7579a0b48e54296096206bbda138", func := "amalgam/amalgamlaw04.CanonParts", spec := "canonParts", inPlace := ["internal/bytealg.abigen_runtime_cmpstring"], unfollowed := true, recurses := true, loops := true, apart := false, narrowed := true }
def CanonPartsUptoSaid : Prop := canonPartsUptoRow.holds Try.pinned (OpenSpec.upto canonPartsSpec)

/-- 'amalgamlaw04.CanonStays', WHERE WHAT IT READS IS OF BULK AT MOST 1048576: true; the input reads as it did. -/
def canonStaysUptoRow : OpenClaim := { program := "ytlemkgdbefmeeaa", sum := "4daee74fb5ce3742021b5e97f7a025d0ed7b7579a0b48e54296096206bbda138", func := "amalgam/amalgamlaw04.CanonStays", spec := "canonStays", inPlace := ["internal/bytealg.abigen_runtime_cmpstring"], unfollowed := true, recurses := true, loops := true, apart := false, narrowed := true }
def CanonStaysUptoSaid : Prop := canonStaysUptoRow.holds Try.pinned (OpenSpec.upto canonStaysSpec)

/-- 'amalgamlaw04.CanonAxioms', WHERE WHAT IT READS IS OF BULK AT MOST 1048576: true; the input reads as it did. -/
def canonAxiomsUptoRow : OpenClaim := { program := "ytlemkgdbefmeeaa", sum := "4daee74fb5ce3742021b5e97f7a025d0ed7b7579a0b48e54296096206bbda138", func := "amalgam/amalgamlaw04.CanonAxioms", spec := "canonAxioms", inPlace := ["internal/bytealg.abigen_runtime_cmpstring"], unfollowed := true, recurses := true, loops := true, apart := false, narrowed := true }
def CanonAxiomsUptoSaid : Prop := canonAxiomsUptoRow.holds Try.pinned (OpenSpec.upto canonAxiomsSpec)

/-- 'amalgamlaw04.CanonWithin', WHERE WHAT IT READS IS OF BULK AT MOST 1048576: true; the input reads as it did. -/
def canonWithinUptoRow : OpenClaim := { program := "ytlemkgdbefmeeaa", sum := "4daee74fb5ce3742021b5e97f7a025d0ed7b7579a0b48e54296096206bbda138", func := "amalgam/amalgamlaw04.CanonWithin", spec := "canonWithin", inPlace := ["internal/bytealg.abigen_runtime_cmpstring"], unfollowed := true, recurses := true, loops := true, apart := false, narrowed := true }
def CanonWithinUptoSaid : Prop := canonWithinUptoRow.holds Try.pinned (OpenSpec.upto canonWithinSpec)

/-- 'amalgamlaw04.CanonCancels', WHERE WHAT IT READS IS OF BULK AT MOST 1048576: true; the input reads as it did. -/
def canonCancelsUptoRow : OpenClaim := { program := "ytlemkgdbefmeeaa", sum := "4daee74fb5ce3742021b5e97f7a025d0ed7b7579a0b48e54296096206bbda138", func := "amalgam/amalgamlaw04.CanonCancels", spec := "canonCancels", inPlace := ["internal/bytealg.abigen_runtime_cmpstring"], unfollowed := true, recurses := true, loops := true, apart := false, narrowed := true }
def CanonCancelsUptoSaid : Prop := canonCancelsUptoRow.holds Try.pinned (OpenSpec.upto canonCancelsSpec)

end Rows
end Go.Proofs.Ytlemkgdbefmeeaa
