/-
  NARROWER THAN 'FOR EVERY INPUT', by the rows' own cells (each row's printed sentence says how): DeriveDoes: loops · DerivePlays: loops · DeriveSound: loops · DeriveDown: loops · DeriveDeep: loops.
  DERIVED. THE GIVEN ROWS OF THIS SEAT. 5 by the template 'for every input the law returns true; each argument reads behind the call as it read before'; 0 by the template 'total and deterministic' (their statements: YtokbgbbkopmngaaTotals.lean).
  GIVEN WITH THE SEED: the statements are not yours to turn. If you find one false, say at which input.
  Laid BY PROGRAM, IN A SANDBOX (cutbox-rows.mjs): the forced cells as the released guide's own fill.sh prints them over the translation e4c97a9c50a7782e… (all of the seat's roots in one cut). By AI agents, Wed Nov 11 2026. No macro, syntax, notation, axiom, sorry.
-/
import Derived.Test.YtokbgbbkopmngaaChecked
import GoSem.Claim
import GoSem.ClaimJoined
import GoSem.ClaimMapViews
import Derived.JoinedTies
import Derived.KernelRfl
namespace Go.Proofs.Ytokbgbbkopmngaa
/- THE CELL 'sum', in the pinned program and in every row, IS THE sha256 OF THE DUMP (.gsa) THAT YtokbgbbkopmngaaProg.lean LOADS. Nothing in Lean hashes anything: it is a label: what it is worth is what the hold of that sum in a sandbox is worth. -/
noncomputable def Try.pinned : Pinned := { name := "ytokbgbbkopmngaa", sum := "e4c97a9c50a7782e4f4462ba67d3ad1098858abff0f05325dcb96e617fabc448", checked := Try.checked }
namespace Rows
def none {H : Type} : Left H := { results := [], args := [] }

/-- 'amalgamlaw08.DeriveDoes': WHATEVER THE INPUT: true; the input reads as it did. -/
def deriveDoesSpec : ChangeSpec := { name := "deriveDoes", fn := fun _ => fun
  | [d] => { results := [.lit (.bool true)], args := [d] }
  | _ => none }
def deriveDoesRow : OpenClaim := { program := "ytokbgbbkopmngaa", sum := "e4c97a9c50a7782e4f4462ba67d3ad1098858abff0f05325dcb96e617fabc448", func := "amalgam/amalgamlaw08.DeriveDoes", spec := "deriveDoes", inPlace := ["slices.overlaps[amalgam/api.Term]", "internal/bytealg.abigen_runtime_cmpstring"], unfollowed := true, recurses := true, loops := true, apart := false }
def DeriveDoesSaid : Prop := deriveDoesRow.holds Try.pinned (OpenSpec.ofChange deriveDoesSpec)

/-- ITS FALSE NEIGHBOUR: 'it returns false'. Refute it at one input. -/
def deriveDoesWrong : ChangeSpec := { name := "deriveDoes", fn := fun _ => fun
  | [d] => { results := [.lit (.bool false)], args := [d] }
  | _ => none }
def DeriveDoesWrongFalsely : Prop := deriveDoesRow.holds Try.pinned (OpenSpec.ofChange deriveDoesWrong)

/-- 'amalgamlaw08.DerivePlays': WHATEVER THE INPUT: true; the input reads as it did. -/
def derivePlaysSpec : ChangeSpec := { name := "derivePlays", fn := fun _ => fun
  | [d] => { results := [.lit (.bool true)], args := [d] }
  | _ => none }
def derivePlaysRow : OpenClaim := { program := "ytokbgbbkopmngaa", sum := "e4c97a9c50a7782e4f4462ba67d3ad1098858abff0f05325dcb96e617fabc448", func := "amalgam/amalgamlaw08.DerivePlays", spec := "derivePlays", inPlace := ["slices.overlaps[amalgam/api.Term]", "internal/bytealg.abigen_runtime_cmpstring"], unfollowed := true, recurses := true, loops := true, apart := false }
def DerivePlaysSaid : Prop := derivePlaysRow.holds Try.pinned (OpenSpec.ofChange derivePlaysSpec)

/-- ITS FALSE NEIGHBOUR: 'it returns false'. Refute it at one input. -/
def derivePlaysWrong : ChangeSpec := { name := "derivePlays", fn := fun _ => fun
  | [d] => { results := [.lit (.bool false)], args := [d] }
  | _ => none }
def DerivePlaysWrongFalsely : Prop := derivePlaysRow.holds Try.pinned (OpenSpec.ofChange derivePlaysWrong)

/-- 'amalgamlaw08.DeriveSound': WHATEVER THE INPUT: true; the input reads as it did. -/
def deriveSoundSpec : ChangeSpec := { name := "deriveSound", fn := fun _ => fun
  | [d] => { results := [.lit (.bool true)], args := [d] }
  | _ => none }
def deriveSoundRow : OpenClaim := { program := "ytokbgbbkopmngaa", sum := "e4c97a9c50a7782e4f4462ba67d3ad1098858abff0f05325dcb96e617fabc448", func := "amalgam/amalgamlaw08.DeriveSound", spec := "deriveSound", inPlace := ["slices.overlaps[amalgam/api.Term]", "internal/bytealg.abigen_runtime_cmpstring"], unfollowed := true, recurses := true, loops := true, apart := false }
def DeriveSoundSaid : Prop := deriveSoundRow.holds Try.pinned (OpenSpec.ofChange deriveSoundSpec)

/-- ITS FALSE NEIGHBOUR: 'it returns false'. Refute it at one input. -/
def deriveSoundWrong : ChangeSpec := { name := "deriveSound", fn := fun _ => fun
  | [d] => { results := [.lit (.bool false)], args := [d] }
  | _ => none }
def DeriveSoundWrongFalsely : Prop := deriveSoundRow.holds Try.pinned (OpenSpec.ofChange deriveSoundWrong)

/-- 'amalgamlaw08.DeriveDown': WHATEVER THE INPUT: true; the input reads as it did. -/
def deriveDownSpec : ChangeSpec := { name := "deriveDown", fn := fun _ => fun
  | [d1, d2] => { results := [.lit (.bool true)], args := [d1, d2] }
  | _ => none }
def deriveDownRow : OpenClaim := { program := "ytokbgbbkopmngaa", sum := "e4c97a9c50a7782e4f4462ba67d3ad1098858abff0f05325dcb96e617fabc448", func := "amalgam/amalgamlaw08.DeriveDown", spec := "deriveDown", inPlace := ["slices.overlaps[amalgam/api.Term]", "internal/bytealg.abigen_runtime_cmpstring"], unfollowed := true, recurses := true, loops := true, apart := false }
def DeriveDownSaid : Prop := deriveDownRow.holds Try.pinned (OpenSpec.ofChange deriveDownSpec)

/-- ITS FALSE NEIGHBOUR: 'it returns false'. Refute it at one input. -/
def deriveDownWrong : ChangeSpec := { name := "deriveDown", fn := fun _ => fun
  | [d1, d2] => { results := [.lit (.bool false)], args := [d1, d2] }
  | _ => none }
def DeriveDownWrongFalsely : Prop := deriveDownRow.holds Try.pinned (OpenSpec.ofChange deriveDownWrong)

/-- 'amalgamlaw08.DeriveDeep': WHATEVER THE INPUT: true; the input reads as it did. -/
def deriveDeepSpec : ChangeSpec := { name := "deriveDeep", fn := fun _ => fun
  | [d1, d2] => { results := [.lit (.bool true)], args := [d1, d2] }
  | _ => none }
def deriveDeepRow : OpenClaim := { program := "ytokbgbbkopmngaa", sum := "e4c97a9c50a7782e4f4462ba67d3ad1098858abff0f05325dcb96e617fabc448", func := "amalgam/amalgamlaw08.DeriveDeep", spec := "deriveDeep", inPlace := ["slices.overlaps[amalgam/api.Term]", "internal/bytealg.abigen_runtime_cmpstring"], unfollowed := true, recurses := true, loops := true, apart := false }
def DeriveDeepSaid : Prop := deriveDeepRow.holds Try.pinned (OpenSpec.ofChange deriveDeepSpec)

/-- ITS FALSE NEIGHBOUR: 'it returns false'. Refute it at one input. -/
def deriveDeepWrong : ChangeSpec := { name := "deriveDeep", fn := fun _ => fun
  | [d1, d2] => { results := [.lit (.bool false)], args := [d1, d2] }
  | _ => none }
def DeriveDeepWrongFalsely : Prop := deriveDeepRow.holds Try.pinned (OpenSpec.ofChange deriveDeepWrong)

/- THE SECOND FORM. 'bulk': how many values and letters a reading holds, each counted each time it is reached (what is shared counts as often as it is met; a slice's spare places count too). A statement '..UptoSaid' is the law's where the arguments, and the package variables that the reading takes, are together of bulk at most 1048576: NARROWER than '..Said'. Prove '..Said' where nothing that the law and all that it calls make is longer than what came in: it says more and counts as full. Else prove '..UptoSaid'. A law counts once. -/
mutual
def uptoBulk {H : Type} : DataW H → Nat
  | .lit (.string bytes) => bytes.length + 1
  | .lit _ => 1
  | .nil => 1
  | .ptr d => uptoBulk d + 1
  | .slice elems spare => uptoBulkAll elems + uptoBulkAll spare + 1
  | .agg parts => uptoBulkAll parts + 1
  | .iface _ d => uptoBulk d + 1
  | .map entries => uptoBulkEntries entries + 1
  | .held _ => 1
def uptoBulkAll {H : Type} : List (DataW H) → Nat
  | [] => 0
  | d :: r => uptoBulk d + uptoBulkAll r
def uptoBulkEntries {H : Type} : List (Lit × DataW H) → Nat
  | [] => 0
  | x :: r => uptoBulkEntry x + uptoBulkEntries r
def uptoBulkEntry {H : Type} : Lit × DataW H → Nat
  | (.string bytes, d) => bytes.length + uptoBulk d + 1
  | (_, d) => uptoBulk d + 1
 end
def uptoSmall : (H : Type) → List (DataW H) → Bool := fun _ ds => decide (uptoBulkAll ds ≤ 1048576)
def OpenSpec.upto (s : _root_.Go.ChangeSpec) : _root_.Go.OpenSpec := { _root_.Go.OpenSpec.ofChange s with cond := some uptoSmall }

/-- 'amalgamlaw08.DeriveDoes', WHERE WHAT IT READS IS OF BULK AT MOST 1048576: true; the input reads as it did. -/
def deriveDoesUptoRow : OpenClaim := { program := "ytokbgbbkopmngaa", sum := "e4c97a9c50a7782e4f4462ba67d3ad1098858abff0f05325dcb96e617fabc448", func := "amalgam/amalgamlaw08.DeriveDoes", spec := "deriveDoes", inPlace := ["slices.overlaps[amalgam/api.Term]", "internal/bytealg.abigen_runtime_cmpstring"], unfollowed := true, recurses := true, loops := true, apart := false, narrowed := true }
def DeriveDoesUptoSaid : Prop := deriveDoesUptoRow.holds Try.pinned (OpenSpec.upto deriveDoesSpec)

/-- 'amalgamlaw08.DerivePlays', WHERE WHAT IT READS IS OF BULK AT MOST 1048576: true; the input reads as it did. -/
def derivePlaysUptoRow : OpenClaim := { program := "ytokbgbbkopmngaa", sum := "e4c97a9c50a7782e4f4462ba67d3ad1098858abff0f05325dcb96e617fabc448", func := "amalgam/amalgamlaw08.DerivePlays", spec := "derivePlays", inPlace := ["slices.overlaps[amalgam/api.Term]", "internal/bytealg.abigen_runtime_cmpstring"], unfollowed := true, recurses := true, loops := true, apart := false, narrowed := true }
def DerivePlaysUptoSaid : Prop := derivePlaysUptoRow.holds Try.pinned (OpenSpec.upto derivePlaysSpec)

/-- 'amalgamlaw08.DeriveSound', WHERE WHAT IT READS IS OF BULK AT MOST 1048576: true; the input reads as it did. -/
def deriveSoundUptoRow : OpenClaim := { program := "ytokbgbbkopmngaa", sum := "e4c97a9c50a7782e4f4462ba67d3ad1098858abff0f05325dcb96e617fabc448", func := "amalgam/amalgamlaw08.DeriveSound", spec := "deriveSound", inPlace := ["slices.overlaps[amalgam/api.Term]", "internal/bytealg.abigen_runtime_cmpstring"], unfollowed := true, recurses := true, loops := true, apart := false, narrowed := true }
def DeriveSoundUptoSaid : Prop := deriveSoundUptoRow.holds Try.pinned (OpenSpec.upto deriveSoundSpec)

/-- 'amalgamlaw08.DeriveDown', WHERE WHAT IT READS IS OF BULK AT MOST 1048576: true; the input reads as it did. -/
def deriveDownUptoRow : OpenClaim := { program := "ytokbgbbkopmngaa", sum := "e4c97a9c50a7782e4f4462ba67d3ad1098858abff0f05325dcb96e617fabc448", func := "amalgam/amalgamlaw08.DeriveDown", spec := "deriveDown", inPlace := ["slices.overlaps[amalgam/api.Term]", "internal/bytealg.abigen_runtime_cmpstring"], unfollowed := true, recurses := true, loops := true, apart := false, narrowed := true }
def DeriveDownUptoSaid : Prop := deriveDownUptoRow.holds Try.pinned (OpenSpec.upto deriveDownSpec)

/-- 'amalgamlaw08.DeriveDeep', WHERE WHAT IT READS IS OF BULK AT MOST 1048576: true; the input reads as it did. -/
def deriveDeepUptoRow : OpenClaim := { program := "ytokbgbbkopmngaa", sum := "e4c97a9c50a7782e4f4462ba67d3ad1098858abff0f05325dcb96e617fabc448", func := "amalgam/amalgamlaw08.DeriveDeep", spec := "deriveDeep", inPlace := ["slices.overlaps[amalgam/api.Term]", "internal/bytealg.abigen_runtime_cmpstring"], unfollowed := true, recurses := true, loops := true, apart := false, narrowed := true }
def DeriveDeepUptoSaid : Prop := deriveDeepUptoRow.holds Try.pinned (OpenSpec.upto deriveDeepSpec)

end Rows
end Go.Proofs.Ytokbgbbkopmngaa
